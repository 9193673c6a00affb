package keep

import (
	"slices"
	"testing"
)

// cut makes a sketch that has these items and ends, and was thinned so many times.
func cut(least, greatest int, times []int, k int, levels ...[]int) Sketch {
	s := of(k, levels...)
	s.Least, s.Greatest = least, greatest
	for h, n := range times {
		s.Levels[h].Times = n
	}
	return s
}

// high makes a sketch of so many levels with these items on the top alone, all of them 5.
func high(k int, levels int, items int) Sketch {
	s := Sketch{K: k, Levels: make([]Level, levels), Least: 5, Greatest: 5}
	s.Levels[levels-1].Items = slices.Repeat([]int{5}, items)
	return s
}

func TestSound(t *testing.T) {
	many := high(64, 28, 1)
	many.Levels[0].Items = slices.Repeat([]int{5}, 227)
	often := high(2, 29, 1)
	often.Levels[0].Times = 1 << 27
	for _, s := range []Sketch{
		Begin(2), Begin(64),
		cut(5, 5, nil, 2, []int{5}),
		cut(-9, 5, nil, 2, []int{-9, 5}),
		cut(5, 5, nil, 2, []int{5, 5}),
		cut(1, 4, nil, 3, []int{1, 1, 2, 4}, []int{3}),
		cut(1, 4, nil, 2, []int{4}, []int{1}),
		cut(3, 9, []int{1}, 2, nil, []int{5}),
		cut(1, 9, []int{2, 1}, 2, nil, nil, []int{4}),
		cut(1, 9, []int{0, 1}, 2, nil, nil, []int{4}),
		high(2, 29, 1), high(2, 28, 2), many, often,
	} {
		if !s.Sound() {
			t.Errorf("P14: %swith K %d, %d to %d, may be a sketch", shown(s), s.K, s.Least, s.Greatest)
		}
	}
}

func TestNotSound(t *testing.T) {
	many := high(64, 28, 1)
	many.Levels[0].Items = slices.Repeat([]int{5}, 228)
	often := high(2, 29, 1)
	often.Levels[0].Times = 1<<27 + 1
	// By 64 bits alone 2^30 times 2^28 times 64 would be 0, and 2^31 times 2^27 times 43 below 0.
	none := high(64, 29, 1)
	none.Levels[28].Times = 1 << 30
	below := high(64, 29, 1)
	below.Levels[27].Times = 1 << 31
	for _, s := range []Sketch{
		{}, {K: 2}, Begin(1), Begin(65), Begin(0), Begin(-1),
		of(2, nil, nil),
		cut(5, 5, nil, 2, []int{5}, nil),
		high(2, 30, 1), high(2, 29, 2), high(3, 28, 3), high(2, 200, 1), many, often, none, below,
		cut(5, 5, nil, 2, []int{5, 5, 5}),
		cut(5, 5, []int{1}, 2, []int{5}),
		cut(0, 0, []int{1}, 2, nil),
		cut(5, 5, []int{-1}, 2, []int{5}),
		cut(3, 9, []int{2}, 2, nil, []int{5}),
		cut(3, 9, []int{0, 1}, 2, nil, []int{5}),
		cut(3, 9, []int{1}, 4, nil, []int{5}),
		cut(1, 9, []int{3, 1}, 2, nil, nil, []int{4}),
		cut(1, 9, []int{2, 2}, 2, nil, nil, []int{4}),
		cut(1, 3, nil, 3, []int{1, 3, 2}),
		cut(1, 9, []int{2}, 2, nil, []int{5, 2, 7}),
		cut(3, 9, []int{1}, 2, nil, []int{2}),
		cut(3, 9, []int{1}, 2, nil, []int{10}),
		cut(9, 3, []int{1}, 2, nil, []int{5}),
		cut(4, 5, nil, 2, []int{5}),
		cut(5, 6, nil, 2, []int{5}),
		cut(4, 5, nil, 2, nil, []int{5}),
		cut(1, 9, nil, 2, []int{2}, []int{8}),
	} {
		if s.Sound() {
			t.Errorf("P14: %swith K %d, %d to %d, may be no sketch", shown(s), s.K, s.Least, s.Greatest)
		}
	}
}
