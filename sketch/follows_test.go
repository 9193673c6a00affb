package sketch_test

import (
	"fmt"
	"math/rand"
	"slices"
	"strings"
	"testing"

	"sketch/api"
	"sketch/sketch"
)

func TestShapeHangsOnWeightsAlone(t *testing.T) {
	r := rand.New(rand.NewSource(9))
	a := deskOf(t, 3, strings.Repeat("0", 1024), 5, 4)
	b := deskOf(t, 3, someCoins(r, 1024), 5, 4)
	for i := range 1000 {
		w := 1 + r.Intn(9)
		// Sketch 2 is there from the 450th call on.
		s := i % (2 + i/500)
		add(t, a, s, w, 7)
		add(t, b, s, w, someNumber(r))
		if i%100 == 99 {
			merge(t, a, 0, i/100%2)
			merge(t, b, 0, i/100%2)
			take(t, a, 1, 0, i, encode(t, a, 0))
			take(t, b, 1, 0, i, encode(t, b, 0))
		}
		if i == 450 {
			decode(t, a, encode(t, a, 0), 2)
			decode(t, b, encode(t, b, 0), 2)
		}
		for s := range 3 {
			if one, two := shape(a, s), shape(b, s); one != two || a.Left() != b.Left() {
				t.Fatalf("P17: %s, left %d, and %s, left %d", one, a.Left(), two, b.Left())
			}
		}
		if a.Left() < 100 {
			feed(t, a, strings.Repeat("1", 900))
			feed(t, b, someCoins(r, 900))
		}
	}
}

// shape writes how many items are on which level, and the ledger.
func shape(d *sketch.Desk, s int) string {
	size, _ := d.Size(s)
	ledger, _ := d.Ledger(s)
	text := fmt.Sprint(size, ledger)
	for h := range size.Levels {
		items, _ := d.Level(s, h)
		text += fmt.Sprint(" ", len(items))
	}
	return text
}

// weighCame is what those numbers that came in weigh that are at most q.
func (m *model) weighCame(q int) int {
	sum := 0
	for _, c := range m.came {
		if c.x <= q {
			sum += c.w
		}
	}
	return sum
}

func TestWhatIsToldIsTrue(t *testing.T) {
	for seed := range 48 {
		onlyOnes := seed%2 == 0
		b := tryCalls(t, int64(1000+seed), 200, []int{1000, 20, 5}[seed/2%3], onlyOnes)
		for s, m := range b.sketches {
			if m.count() == 0 {
				continue
			}
			wantTrue(t, b.d, s, m, onlyOnes)
		}
	}
}

// wantTrue tells that what a sketch with items tells holds against all that came in.
func wantTrue(t *testing.T, d *sketch.Desk, s int, m *model, onlyOnes bool) {
	t.Helper()
	wantTrueRanks(t, d, s, m)
	wantTrueQuantiles(t, d, s, m)
	wantCame(t, d, s, m)
	wantBounds(t, d, s, m, onlyOnes)
}

// wantTrueRanks tells that Low, High and the error hold against all that came in.
func wantTrueRanks(t *testing.T, d *sketch.Desk, s int, m *model) {
	t.Helper()
	ledger, _ := d.Ledger(s)
	for _, c := range m.came {
		truth := m.weighCame(c.x)
		rank, e := d.Rank(s, c.x)
		if e != api.OK || truth < rank.Low || truth > rank.High {
			t.Fatalf("P17: Rank(%d, %d) = %+v, %d, but it is %d", s, c.x, rank, e, truth)
		}
		if off := rank.Mid - truth; off > ledger.Error || off < -ledger.Error {
			t.Fatalf("P17: Rank(%d, %d) = %+v is off %d by more than the error %d", s, c.x, rank, truth, ledger.Error)
		}
	}
}

// wantTrueQuantiles tells that numbers at places are off by no more than the error.
func wantTrueQuantiles(t *testing.T, d *sketch.Desk, s int, m *model) {
	t.Helper()
	ledger, _ := d.Ledger(s)
	for _, r := range m.nearRanks() {
		x, e := d.Quantile(s, r)
		below := 0
		if x > lowest {
			below = m.weighCame(x - 1)
		}
		if e != api.OK || m.weighCame(x) < r-ledger.Error || below > r-1+ledger.Error {
			t.Fatalf("P17: Quantile(%d, %d) = %d, %d: %d are at most it, %d below, the error is %d", s, r, x, e, m.weighCame(x), below, ledger.Error)
		}
	}
}

// wantCame tells that every item is a number that came in.
func wantCame(t *testing.T, d *sketch.Desk, s int, m *model) {
	t.Helper()
	size, _ := d.Size(s)
	for h := range size.Levels {
		items, _ := d.Level(s, h)
		for _, x := range items {
			if !slices.ContainsFunc(m.came, func(c coming) bool { return c.x == x }) {
				t.Fatalf("P17: Level(%d, %d) has %d, which never came in", s, h, x)
			}
		}
	}
}

// wantBounds tells that the count is right, and that the items, the levels and the spread are not too many.
func wantBounds(t *testing.T, d *sketch.Desk, s int, m *model, onlyOnes bool) {
	t.Helper()
	size, _ := d.Size(s)
	capacity := 0
	for h := range size.Levels {
		capacity += m.capacity(h)
	}
	if size.Count != m.weighCame(highest) || size.Items > capacity || 1<<(size.Levels-1) > size.Count {
		t.Fatalf("P17: Size(%d) = %+v, the capacity is %d, what came in weighs %d", s, size, capacity, m.weighCame(highest))
	}
	ledger, _ := d.Ledger(s)
	if onlyOnes && ledger.Spread*size.K*size.K > 8*size.Count*size.Count {
		t.Fatalf("P17: Size(%d) = %+v, spread %d: too great", s, size, ledger.Spread)
	}
}

// inAllWays makes the same calls with all ways in which so many coins may lie, and answers the desks.
// They have room for one sketch more.
func inAllWays(t *testing.T, coins int, ks []int, calls func(d *sketch.Desk)) []*sketch.Desk {
	desks := []*sketch.Desk{}
	for way := range 1 << coins {
		text := ""
		for i := range coins {
			text += fmt.Sprint(way >> i & 1)
		}
		d := deskOf(t, len(ks)+1, text, ks...)
		calls(d)
		if d.Left() != 0 {
			t.Fatalf("P17: of %d coins %d are left", coins, d.Left())
		}
		desks = append(desks, d)
	}
	return desks
}

// wantFair tells that what Mid is off adds up to 0 over all desks; and its squares to no more than the spread allows.
func wantFair(t *testing.T, desks []*sketch.Desk, s int, came []int, squaresToo bool) {
	t.Helper()
	for q := range 12 {
		truth := 0
		for _, x := range came {
			if x <= q {
				truth++
			}
		}
		sum, squares := 0, 0
		for _, d := range desks {
			rank, _ := d.Rank(s, q)
			sum += rank.Mid - truth
			squares += (rank.Mid - truth) * (rank.Mid - truth)
		}
		ledger, _ := desks[0].Ledger(s)
		if sum != 0 {
			t.Errorf("P17: over %d ways what Mid is off for %d adds up to %d", len(desks), q, sum)
		}
		if squaresToo && squares > ledger.Spread*len(desks) {
			t.Errorf("P17: over %d ways the squares of what Mid is off for %d add up to %d, the spread is %d", len(desks), q, squares, ledger.Spread)
		}
	}
}

func TestCoinsAreFair(t *testing.T) {
	one := []int{5, 3, 9, 1, 7, 2, 8, 4, 4, 6, 10}
	two := []int{2, 6, 6, 1, 11, 3, 9}
	three := []int{7, 1, 5}
	desks := inAllWays(t, 8, []int{2, 3}, func(d *sketch.Desk) {
		add(t, d, 0, 1, one...)
		add(t, d, 1, 1, two...)
		merge(t, d, 0, 1)
		add(t, d, 0, 1, three...)
	})
	wantFair(t, desks, 0, slices.Concat(one, two, three), true)
}

func TestCoinsAreFairForOneMergedIntoItself(t *testing.T) {
	one := []int{5, 3, 9, 1, 7, 2, 8}
	desks := inAllWays(t, 3, []int{2}, func(d *sketch.Desk) {
		add(t, d, 0, 1, one...)
		merge(t, d, 0, 0)
	})
	wantFair(t, desks, 0, slices.Concat(one, one), false)
}

func TestCoinsAreFairForSketchesOfTexts(t *testing.T) {
	one := []int{5, 3, 9, 1, 7, 2, 8}
	two := []int{2, 6, 6, 1}
	desks := inAllWays(t, 5, []int{2, 3}, func(d *sketch.Desk) {
		add(t, d, 0, 1, one...)
		decode(t, d, encode(t, d, 0), 2)
		add(t, d, 2, 1, two...)
		merge(t, d, 1, 2)
		merge(t, d, 1, 0)
	})
	wantFair(t, desks, 2, slices.Concat(one, two), false)
	wantFair(t, desks, 1, slices.Concat(one, two, one), false)
}

func TestCoinsAreFairForReports(t *testing.T) {
	one := []int{5, 3, 9, 1, 7, 2, 8}
	two := []int{2, 6, 6, 1}
	three := []int{10, 4}
	desks := inAllWays(t, 7, []int{2, 3}, func(d *sketch.Desk) {
		add(t, d, 0, 1, one...)
		add(t, d, 1, 1, two...)
		take(t, d, 1, 0, 0, encode(t, d, 0))
		add(t, d, 1, 1, three...)
		take(t, d, 1, 0, 1, encode(t, d, 1))
		decode(t, d, encode(t, d, 1), 2)
		take(t, d, 2, 0, 0, encode(t, d, 0))
	})
	all := slices.Concat(two, one, three)
	wantFair(t, desks, 1, slices.Concat(all, all), false)
	wantFair(t, desks, 2, slices.Concat(all, all, one), false)
}

// Reports come from a desk of their own, by weights of 1 alone, into one sketch that was opened and one that was decoded.
func TestWhatIsToldBehindManyReportsIsTrue(t *testing.T) {
	for _, k := range []int{2, 3, 10, 64} {
		r := rand.New(rand.NewSource(int64(k)))
		to := bothOf(t, 2, k)
		to.copy(t, 0)
		for i := range api.MaxTaken {
			from := bothOf(t, 1, 2+r.Intn(63))
			from.feed(t, someCoins(r, api.MaxTape))
			for range r.Intn(150) {
				from.add(t, 0, r.Intn(2000)-1000, 1)
			}
			from.note(t, 0)
			for s := range 2 {
				to.feed(t, someCoins(r, max(0, 50-len(to.coins))))
				to.take(t, s, name{i % 5, i}, from.reports[1])
				to.take(t, s, name{i % 5, i}, from.reports[1])
				to.add(t, s, r.Intn(2000)-1000, 1)
			}
		}
		if to.answers[api.ErrTwice] != 2*api.MaxTaken {
			t.Errorf("P16: with K %d not all reports were taken: %v", k, to.answers)
		}
		for s, m := range to.sketches {
			wantTrue(t, to.d, s, m, true)
		}
	}
}
