package sketch_test

import (
	"slices"
	"strings"
	"testing"

	"sketch/api"
	"sketch/sketch"
)

func wantRank(t *testing.T, d *sketch.Desk, s, q, low, mid, high int) {
	t.Helper()
	want := api.Rank{Low: low, Mid: mid, High: high}
	if got, e := d.Rank(s, q); got != want || e != api.OK {
		t.Errorf("P10: Rank(%d, %d) = %+v, %d, want %+v", s, q, got, e, want)
	}
}

func wantQuantile(t *testing.T, d *sketch.Desk, s, r, want int) {
	t.Helper()
	if got, e := d.Quantile(s, r); got != want || e != api.OK {
		t.Errorf("P11: Quantile(%d, %d) = %d, %d, want %d", s, r, got, e, want)
	}
}

func wantSplit(t *testing.T, d *sketch.Desk, s int, cuts []int, want ...int) {
	t.Helper()
	if got, e := d.Split(s, cuts); !slices.Equal(got, want) || e != api.OK {
		t.Errorf("P12: Split(%d, %v) = %v, %d, want %v", s, cuts, got, e, want)
	}
}

func TestRankExample(t *testing.T) {
	d := exampleDesk(t)
	wantRank(t, d, 0, lowest, 0, 0, 0)
	wantRank(t, d, 0, 0, 0, 0, 0)
	wantRank(t, d, 0, 1, 1, 0, 2) // Mid is below Low
	wantRank(t, d, 0, 2, 1, 2, 4)
	wantRank(t, d, 0, 4, 1, 2, 4)
	wantRank(t, d, 0, 5, 2, 4, 5)
	wantRank(t, d, 0, 8, 4, 6, 5) // Mid is above High
	wantRank(t, d, 0, 9, 6, 6, 6)
	wantRank(t, d, 0, highest, 6, 6, 6)
	merge(t, d, 0, 1)
	wantRank(t, d, 0, 3, 1, 2, 4)
	wantRank(t, d, 0, 4, 6, 8, 10)
	wantRank(t, d, 0, 7, 10, 12, 11)
}

func TestRankWithoutError(t *testing.T) {
	d := deskOf(t, 1, "", 8)
	add(t, d, 0, 1, 10, 30)
	add(t, d, 0, 5, 20)
	wantRank(t, d, 0, 9, 0, 0, 0)
	wantRank(t, d, 0, 10, 1, 1, 1)
	wantRank(t, d, 0, 19, 1, 1, 1)
	wantRank(t, d, 0, 20, 6, 6, 6)
	wantRank(t, d, 0, 29, 6, 6, 6)
	wantRank(t, d, 0, 30, 7, 7, 7)
}

func TestRankOfOneNumberAtTheEdges(t *testing.T) {
	d := deskOf(t, 3, "01", 2, 2, 2)
	add(t, d, 0, 1, lowest, lowest, lowest)
	wantRank(t, d, 0, lowest, 3, 3, 3)
	wantRank(t, d, 0, lowest+1, 3, 3, 3)
	wantRank(t, d, 0, highest, 3, 3, 3)
	add(t, d, 1, 1, highest, highest, highest)
	wantRank(t, d, 1, lowest, 0, 0, 0)
	wantRank(t, d, 1, highest-1, 0, 0, 0)
	wantRank(t, d, 1, highest, 3, 3, 3)
	add(t, d, 2, 1, lowest, highest)
	wantRank(t, d, 2, lowest, 1, 1, 1)
	wantRank(t, d, 2, highest-1, 1, 1, 1)
	wantRank(t, d, 2, highest, 2, 2, 2)
}

func TestRankByAnErrorOfAHigherLevel(t *testing.T) {
	// Level 1 was thinned once, so the error is 2; Low and High stop at 1 and at 9, the count less 1.
	d := deskOf(t, 1, "0", 2)
	add(t, d, 0, 2, 10, 20, 30)
	wantLedger(t, d, 0, 0, 0, 0, 0)
	add(t, d, 0, 2, 40, 50)
	wantLedger(t, d, 0, 2, 4, 0, 1, 0)
	wantLevels(t, d, 0, nil, []int{10}, []int{20, 40})
	wantRank(t, d, 0, 10, 1, 2, 4)
	wantRank(t, d, 0, 25, 4, 6, 8)
	wantRank(t, d, 0, 49, 8, 10, 9)
}

func TestQuantileExample(t *testing.T) {
	d := exampleDesk(t)
	for i, want := range []int{1, 2, 5, 5, 7, 9} {
		wantQuantile(t, d, 0, i+1, want)
	}
	for r := 1; r <= 6; r++ {
		wantQuantile(t, d, 1, r, 4)
	}
}

func TestQuantileOfOneNumber(t *testing.T) {
	d := deskOf(t, 2, "", 2, 2)
	add(t, d, 0, 1, -3)
	wantQuantile(t, d, 0, 1, -3)
	add(t, d, 1, api.MaxCount, lowest)
	for _, r := range []int{1, 2, 1 << 27, api.MaxCount - 1, api.MaxCount} {
		wantQuantile(t, d, 1, r, lowest)
	}
}

func TestQuantileGoesByItemsOnAllLevels(t *testing.T) {
	d := deskOf(t, 1, "", 8)
	add(t, d, 0, 4, 30)
	add(t, d, 0, 2, 10, 50)
	add(t, d, 0, 1, 20, 40)
	for i, want := range []int{10, 10, 20, 30, 30, 30, 30, 40, 50, 50} {
		wantQuantile(t, d, 0, i+1, want)
	}
}

func TestQuantileAtTheEndsThatAreNoItems(t *testing.T) {
	d := deskOf(t, 1, "1", 3)
	add(t, d, 0, 1, lowest, 5, 6, highest)
	// What stays: 5 and the greatest, each with the weight 2.
	wantLevels(t, d, 0, nil, []int{5, highest})
	wantQuantile(t, d, 0, 1, lowest)
	wantQuantile(t, d, 0, 2, 5)
	wantQuantile(t, d, 0, 3, highest)
	wantQuantile(t, d, 0, 4, highest)
}

func TestSplitExample(t *testing.T) {
	d := exampleDesk(t)
	wantSplit(t, d, 0, []int{1, 5, 100}, 0, 4, 2, 0)
	wantSplit(t, d, 0, nil, 6)
	wantSplit(t, d, 0, []int{}, 6)
	wantSplit(t, d, 0, []int{5}, 4, 2)
	wantSplit(t, d, 0, []int{lowest, highest}, 0, 6, 0)
	wantSplit(t, d, 0, []int{lowest, 4, highest}, 0, 2, 4, 0)
	wantSplit(t, d, 1, []int{3, 4, 5}, 0, 6, 0, 0)
}

func TestSplitAtTheEdges(t *testing.T) {
	d := deskOf(t, 1, "", 2)
	add(t, d, 0, 1, lowest, highest)
	wantSplit(t, d, 0, []int{lowest}, 1, 1)
	wantSplit(t, d, 0, []int{highest - 1}, 1, 1)
	wantSplit(t, d, 0, []int{highest}, 2, 0)
	wantSplit(t, d, 0, []int{lowest, highest}, 1, 1, 0)
}

func TestSplitCuts(t *testing.T) {
	d := exampleDesk(t)
	before := seen(d)
	many := make([]int, 18)
	for i := range many {
		many[i] = i - 5
	}
	wantSplit(t, d, 0, many[:16], 0, 0, 0, 0, 0, 0, 0, 2, 0, 0, 2, 0, 2, 0, 0, 0, 0)
	for _, cuts := range [][]int{many[:17], many, make([]int, 5000), {1, 1}, {2, 1}, {1, 2, 2}, {1, 3, 2}, {3, 1, 2}, {highest, lowest}, {highest, highest}, {lowest, lowest}} {
		if got, e := d.Split(0, cuts); got != nil || e != api.ErrArg {
			t.Errorf("P12: Split(0, %v) = %v, %d, want ErrArg", cuts, got, e)
		}
	}
	if after := seen(d); after != before {
		t.Errorf("P2: Split changed\n%s\nto\n%s", before, after)
	}
}

func TestSplitLeavesWhatIsHandedIn(t *testing.T) {
	d := exampleDesk(t)
	in := []int{3, 6, 77, 88}
	got, _ := d.Split(0, in[:2])
	if !slices.Equal(got, []int{2, 2, 2}) || !slices.Equal(in, []int{3, 6, 77, 88}) {
		t.Errorf("P2: Split(0, 3 6) = %v; what was handed in: %v", got, in)
	}
	spoil(got)
	if !slices.Equal(in, []int{3, 6, 77, 88}) {
		t.Errorf("P2: what came out of Split shares memory with what was handed in: %v", in)
	}
	wantSplit(t, d, 0, in[:2], 2, 2, 2)
}

func TestTellErrorsInTheirOrder(t *testing.T) {
	d := deskOf(t, 4, "", 2, 64, 5)
	add(t, d, 0, 1, 5, 3)
	add(t, d, 2, api.MaxCount, 1)
	before := seen(d)
	for _, s := range oddNumbers {
		for _, n := range oddNumbers {
			rankWant, want := api.ErrSketch, api.ErrSketch
			switch {
			case s == 1:
				rankWant, want = api.ErrEmpty, api.ErrEmpty
			case s == 0 && (n < 1 || n > 2), s == 2 && (n < 1 || n > api.MaxCount):
				rankWant, want = api.OK, api.ErrArg
			case s == 0, s == 2:
				rankWant, want = api.OK, api.OK
			}
			if got, e := d.Rank(s, n); e != rankWant || (e != api.OK && got != api.Rank{}) {
				t.Errorf("P10: Rank(%d, %d) = %+v, %d, want %d", s, n, got, e, rankWant)
			}
			if got, e := d.Quantile(s, n); e != want || (e != api.OK && got != 0) {
				t.Errorf("P11: Quantile(%d, %d) = %d, %d, want %d", s, n, got, e, want)
			}
			if want == api.OK {
				want = api.ErrArg
			}
			if got, e := d.Split(s, []int{n, n}); e != want || got != nil {
				t.Errorf("P12: Split(%d, %d %d) = %v, %d, want %d", s, n, n, got, e, want)
			}
		}
	}
	if after := seen(d); after != before {
		t.Errorf("P2: what was told changed\n%s\nto\n%s", before, after)
	}
}

func TestTellingUsesNoCoins(t *testing.T) {
	d := deskOf(t, 1, strings.Repeat("01", 5), 2)
	add(t, d, 0, 1, 4, 3, 2, 1)
	before := seen(d)
	for range 3 {
		wantRank(t, d, 0, 2, 1, 2, 3)
		wantQuantile(t, d, 0, 3, 3)
		wantSplit(t, d, 0, []int{2}, 2, 2)
	}
	if after := seen(d); after != before {
		t.Errorf("P2: what was told changed\n%s\nto\n%s", before, after)
	}
}
