package keep

import (
	"fmt"
	"math/big"
	"slices"
	"testing"

	"sketch/api"
)

// of makes a sketch that has these items and was never thinned.
func of(k int, levels ...[]int) Sketch {
	s := Sketch{K: k}
	for _, items := range levels {
		s.Levels = append(s.Levels, Level{Items: items})
	}
	return s
}

// coins makes coins out of a text of 0 and 1.
func coins(text string) []bool {
	list := []bool{}
	for _, c := range text {
		list = append(list, c == '1')
	}
	return list
}

// shown writes a sketch's levels and times.
func shown(s Sketch) string {
	text := ""
	for _, level := range s.Levels {
		text += fmt.Sprintf("%v*%d ", level.Items, level.Times)
	}
	return text
}

func TestCapacityIsTheLeastThatWillDo(t *testing.T) {
	enough := func(c, k, above int) bool {
		threes := new(big.Int).Exp(big.NewInt(3), big.NewInt(int64(above)), nil)
		twos := new(big.Int).Exp(big.NewInt(2), big.NewInt(int64(above)), nil)
		threes.Mul(threes, big.NewInt(int64(c)))
		twos.Mul(twos, big.NewInt(int64(k)))
		return threes.Cmp(twos) >= 0
	}
	for k := api.MinK; k <= api.MaxK; k++ {
		for above := 0; above < api.MaxLevels; above++ {
			c := capacityOf(k, above)
			if c < api.MinHold || !enough(c, k, above) {
				t.Errorf("capacity with K %d, %d levels above: %d is too small", k, above, c)
			}
			if c > api.MinHold && enough(c-1, k, above) {
				t.Errorf("capacity with K %d, %d levels above: %d is too great", k, above, c)
			}
		}
	}
}

func TestCapacityExamples(t *testing.T) {
	for _, c := range []struct {
		k    int
		want []int
	}{
		{10, []int{10, 7, 5, 3, 2, 2, 2}},
		{64, []int{64, 43, 29, 19, 13, 9, 6, 4, 3, 2, 2}},
	} {
		for above, want := range c.want {
			if got := capacityOf(c.k, above); got != want {
				t.Errorf("capacity with K %d, %d levels above: %d, want %d", c.k, above, got, want)
			}
		}
	}
	full := Sketch{K: api.MaxK, Levels: make([]Level, api.MaxLevels)}
	if got := full.capacity(); got != 230 {
		t.Errorf("the greatest capacity of a sketch: %d, want 230", got)
	}
}

func TestThin(t *testing.T) {
	for _, c := range []struct {
		from Sketch
		h    int
		coin string
		want string
	}{
		{of(2, []int{3, 5}), 0, "0", "[]*1 [3]*0 "},
		{of(2, []int{3, 5}), 0, "1", "[]*1 [5]*0 "},
		{of(2, []int{3, 5, 9}), 0, "0", "[3]*1 [5]*0 "},
		{of(2, []int{3, 5, 9}), 0, "1", "[3]*1 [9]*0 "},
		{of(2, []int{1, 2, 3, 7}, []int{0, 2, 9}), 0, "1", "[]*1 [0 2 2 7 9]*0 "},
		{of(2, []int{8}, []int{1, 2, 3, 4, 5}, []int{3}), 1, "0", "[8]*0 [1]*1 [2 3 4]*0 "},
		{of(2, []int{8}, []int{4, 4, 4, 4}), 1, "1", "[8]*0 []*1 [4 4]*0 "},
	} {
		before := shown(c.from)
		next := c.from.copied()
		next.thin(c.h, coins(c.coin)[0])
		if got := shown(next); got != c.want {
			t.Errorf("%sthinned at %d by %s: %s, want %s", before, c.h, c.coin, got, c.want)
		}
		if shown(c.from) != before {
			t.Errorf("thinning a copy changed %sto %s", before, shown(c.from))
		}
	}
}

func TestSettled(t *testing.T) {
	for _, c := range []struct {
		name  string
		from  Sketch
		coins string
		used  int
		want  string
	}{
		{"nothing to do", of(2, []int{1, 2}), "", 0, "[1 2]*0 "},
		{"a level above its capacity, the sketch not", of(2, []int{1, 3, 7}, []int{5}), "", 0, "[1 3 7]*0 [5]*0 "},
		{"a level is made", of(2, []int{1, 2, 3}), "1", 1, "[1]*1 [3]*0 "},
		{"the lowest of two that are too full", of(2, []int{1, 2, 3}, []int{4, 5, 6}), "01", 2, "[1]*1 []*1 [4 6]*0 "},
		{"a level that is just full is passed by", of(2, []int{1, 2}, []int{3, 4, 5}), "01", 1, "[1 2]*0 [3]*1 [4]*0 "},
		{"two thinned, coins in their order", of(2, []int{1, 2, 3}, []int{4, 5, 6, 7, 8}), "01", 2, "[1]*1 []*1 [4 6 8]*0 "},
		{"two thinned, the other coins", of(2, []int{1, 2, 3}, []int{4, 5, 6, 7, 8}), "10", 2, "[1]*1 []*1 [3 5 7]*0 "},
	} {
		next, used, enough := c.from.Settled(coins(c.coins))
		if got := shown(next); !enough || used != c.used || got != c.want {
			t.Errorf("%s: %s, %d used, %v, want %s, %d used", c.name, got, used, enough, c.want, c.used)
		}
		if c.used == 0 {
			continue
		}
		next, used, enough = c.from.Settled(coins(c.coins[:c.used-1]))
		if enough || used != 0 || next.Levels != nil {
			t.Errorf("%s, a coin too few: %s, %d used, %v", c.name, shown(next), used, enough)
		}
	}
}

func TestWith(t *testing.T) {
	s := Begin(2)
	for _, c := range []struct {
		x, w            int
		least, greatest int
		want            string
	}{
		{-5, 4, -5, -5, "[]*0 []*0 [-5]*0 "},
		{-9, 3, -9, -5, "[-9]*0 [-9]*0 [-5]*0 "},
		{-7, 7, -9, -5, "[-9 -7]*0 [-9 -7]*0 [-7 -5]*0 "},
		{-1, 1, -9, -1, "[-9 -7 -1]*0 [-9 -7]*0 [-7 -5]*0 "},
	} {
		before := shown(s)
		next := s.With(c.x, c.w)
		if got := shown(next); got != c.want || next.Least != c.least || next.Greatest != c.greatest || next.K != 2 {
			t.Errorf("P6: %swith %d of weight %d: %sK %d, %d to %d, want %s%d to %d", before, c.x, c.w, got, next.K, next.Least, next.Greatest, c.want, c.least, c.greatest)
		}
		if shown(s) != before {
			t.Errorf("With changed %sto %s", before, shown(s))
		}
		s = next
	}
}

func TestMerged(t *testing.T) {
	none := Begin(3)
	low := of(5, []int{1, 4, 4})
	low.Levels[0].Times = 2
	low.Least, low.Greatest = 1, 8
	high := of(4, []int{-9, 4}, nil, []int{-1})
	high.Levels[1].Times = 3
	high.Least, high.Greatest = -20, 5
	for _, c := range []struct {
		s, o               Sketch
		k, least, greatest int
		want               string
	}{
		{low, high, 4, -20, 8, "[-9 1 4 4 4]*2 []*3 [-1]*0 "},
		{high, low, 4, -20, 8, "[-9 1 4 4 4]*2 []*3 [-1]*0 "},
		{low, low, 5, 1, 8, "[1 1 4 4 4 4]*4 "},
		{none, high, 3, -20, 5, "[-9 4]*0 []*3 [-1]*0 "},
		{low, none, 3, 1, 8, "[1 4 4]*2 "},
		{none, none, 3, 0, 0, "[]*0 "},
	} {
		s, o := shown(c.s), shown(c.o)
		next := c.s.Merged(c.o)
		if got := shown(next); got != c.want || next.K != c.k || next.Least != c.least || next.Greatest != c.greatest {
			t.Errorf("P9: %smerged with %s: %sK %d, %d to %d, want %sK %d, %d to %d", s, o, got, next.K, next.Least, next.Greatest, c.want, c.k, c.least, c.greatest)
		}
		next.K = 2
		if _, _, enough := next.Settled(coins("0101")); !enough {
			t.Errorf("P9: %smerged with %s: too few coins", s, o)
		}
		if shown(c.s) != s || shown(c.o) != o || shown(next) != c.want {
			t.Errorf("P9: Merged of %sand %schanged them: %sand %s", s, o, shown(c.s), shown(c.o))
		}
	}
}

func TestTold(t *testing.T) {
	s := of(8, []int{2, 9}, []int{4}, []int{4, 6})
	s.Levels[0].Times = 1
	s.Levels[1].Times = 1
	s.Least, s.Greatest = 1, 9
	for _, c := range []struct{ q, low, mid, high int }{
		{0, 0, 0, 0}, {1, 1, 0, 3}, {2, 1, 1, 4}, {3, 1, 1, 4}, {4, 4, 7, 10}, {5, 4, 7, 10}, {6, 8, 11, 11}, {8, 8, 11, 11}, {9, 12, 12, 12}, {10, 12, 12, 12},
	} {
		if got := s.Rank(c.q); got != (api.Rank{Low: c.low, Mid: c.mid, High: c.high}) {
			t.Errorf("P10: Rank(%d) = %+v, want %d, %d, %d", c.q, got, c.low, c.mid, c.high)
		}
	}
	for i, want := range []int{1, 4, 4, 4, 4, 4, 4, 6, 6, 6, 6, 9} {
		if got := s.Quantile(i + 1); got != want {
			t.Errorf("P11: Quantile(%d) = %d, want %d", i+1, got, want)
		}
	}
	for _, c := range []struct{ cuts, want []int }{
		{nil, []int{12}}, {[]int{3}, []int{1, 11}}, {[]int{2, 4, 6, 9}, []int{1, 6, 4, 1, 0}}, {[]int{0, 1, 5}, []int{0, 0, 7, 5}},
	} {
		if got := s.Split(c.cuts); !slices.Equal(got, c.want) {
			t.Errorf("P12: Split(%v) = %v, want %v", c.cuts, got, c.want)
		}
	}
}

func TestLedgerAndSize(t *testing.T) {
	s := of(7, []int{1}, nil, []int{2, 2, 2})
	s.Levels[0].Times = 5
	s.Levels[1].Times = 3
	ledger := s.Ledger()
	if !slices.Equal(ledger.Times, []int{5, 3, 0}) || ledger.Error != 11 || ledger.Spread != 17 {
		t.Errorf("P8: Ledger %+v, want times 5 3 0, error 11, spread 17", ledger)
	}
	if size := s.Size(); size != (api.Size{K: 7, Count: 13, Items: 4, Levels: 3}) {
		t.Errorf("P7: Size %+v, want 7, 13, 4, 3", size)
	}
}
