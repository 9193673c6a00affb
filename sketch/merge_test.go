package sketch_test

import (
	"testing"

	"sketch/api"
	"sketch/sketch"
)

func merge(t *testing.T, d *sketch.Desk, s, o int) {
	t.Helper()
	if e := d.Merge(s, o); e != api.OK {
		t.Fatalf("P9: Merge(%d, %d) = %d", s, o, e)
	}
}

func wantEnds(t *testing.T, d *sketch.Desk, s, a, b int) {
	t.Helper()
	if c, f, e := d.Ends(s); c != a || f != b || e != api.OK {
		t.Errorf("P7: Ends(%d) = %d, %d, %d, want %d, %d", s, c, f, e, a, b)
	}
}

func wantSize(t *testing.T, d *sketch.Desk, s int, want api.Size) {
	t.Helper()
	if size, e := d.Size(s); size != want || e != api.OK {
		t.Errorf("P7: Size(%d) = %+v, %d, want %+v", s, size, e, want)
	}
}

// wantMergeRefused tells that a Merge answers this error and changes nothing.
func wantMergeRefused(t *testing.T, d *sketch.Desk, s, o int, want api.Errno) {
	t.Helper()
	before := seen(d)
	if e := d.Merge(s, o); e != want {
		t.Errorf("P9: Merge(%d, %d) = %d, want %d", s, o, e, want)
	}
	if after := seen(d); after != before {
		t.Errorf("P1: Merge(%d, %d) was refused, yet:\n%s\nis now\n%s", s, o, before, after)
	}
}

// exampleDesk has the sketches 0 and 1 of the document's examples.
func exampleDesk(t *testing.T) *sketch.Desk {
	t.Helper()
	d := deskOf(t, 3, "0110", 2, 2)
	add(t, d, 0, 1, 5, 3, 9, 1, 7, 2)
	add(t, d, 1, 6, 4)
	return d
}

func TestMergeExample(t *testing.T) {
	d := exampleDesk(t)
	merge(t, d, 0, 1)
	wantLevels(t, d, 0, nil, []int{2, 4, 5, 7}, []int{4})
	wantLedger(t, d, 0, 2, 2, 2, 0, 0)
	wantSize(t, d, 0, api.Size{K: 2, Count: 12, Items: 5, Levels: 3})
	wantLeft(t, d, 2)
	merge(t, d, 0, 0)
	wantLevels(t, d, 0, nil, nil, []int{2, 4, 4, 4, 5, 7})
	wantLedger(t, d, 0, 6, 8, 4, 1, 0)
	wantSize(t, d, 0, api.Size{K: 2, Count: 24, Items: 6, Levels: 3})
	wantEnds(t, d, 0, 1, 9)
	wantLeft(t, d, 1)
	wantLevels(t, d, 1, nil, []int{4}, []int{4})
}

func TestMergeErrorsInTheirOrder(t *testing.T) {
	d := deskOf(t, 4, "", 2, 2, 2)
	add(t, d, 0, 1, 5, 3)
	add(t, d, 1, 1, 4)
	add(t, d, 1, api.MaxCount-1, 7)
	add(t, d, 2, 1, 8)
	for _, s := range oddNumbers {
		if s >= 0 && s < 3 {
			continue
		}
		for _, o := range oddNumbers {
			wantMergeRefused(t, d, s, o, api.ErrSketch)
			wantMergeRefused(t, d, o, s, api.ErrSketch)
		}
	}
	wantMergeRefused(t, d, 0, 1, api.ErrFull)
	wantMergeRefused(t, d, 1, 0, api.ErrFull)
	wantMergeRefused(t, d, 0, 2, api.ErrTape)
	wantMergeRefused(t, d, 0, 0, api.ErrTape)
	// Twice the 29 items of sketch 1 are above the capacity 56, so there are too few coins as well.
	wantSize(t, d, 1, api.Size{K: 2, Count: api.MaxCount, Items: 29, Levels: 28})
	wantMergeRefused(t, d, 1, 1, api.ErrFull)
}

func TestMergeUpToMaxCount(t *testing.T) {
	d := deskOf(t, 3, "", 2, 2, 2)
	add(t, d, 0, 1<<27, 5)
	add(t, d, 1, 1<<27+1, 6)
	wantMergeRefused(t, d, 0, 1, api.ErrFull)
	wantMergeRefused(t, d, 1, 0, api.ErrFull)
	merge(t, d, 0, 0)
	wantSize(t, d, 0, api.Size{K: 2, Count: api.MaxCount, Items: 2, Levels: 28})
	wantMergeRefused(t, d, 0, 0, api.ErrFull)
	wantMergeRefused(t, d, 0, 1, api.ErrFull)
	merge(t, d, 0, 2)
	merge(t, d, 2, 0)
	wantSize(t, d, 2, api.Size{K: 2, Count: api.MaxCount, Items: 2, Levels: 28})
}

func TestMergeIntoItselfIsAsOfATwin(t *testing.T) {
	build := func(d *sketch.Desk, s int) {
		feed(t, d, "01")
		add(t, d, s, 1, 8, 1, 6, 3, 9)
		add(t, d, s, 2, 4, 4, 7, 2)
		wantLeft(t, d, 0)
	}
	for _, coins := range []string{"000", "001", "010", "011", "100", "101", "110", "111"} {
		alone := deskOf(t, 1, "", 3)
		build(alone, 0)
		feed(t, alone, coins)
		twins := deskOf(t, 2, "", 3, 3)
		build(twins, 0)
		build(twins, 1)
		feed(t, twins, coins)
		merge(t, alone, 0, 0)
		merge(t, twins, 0, 1)
		if one, two := seenSketch(alone, 0), seenSketch(twins, 0); one != two || alone.Left() != twins.Left() {
			t.Errorf("P9: with %s, Merge(0, 0), %d left:\n%s\nMerge of a twin, %d left:\n%s", coins, alone.Left(), one, twins.Left(), two)
		}
		if alone.Left() > 1 {
			t.Errorf("P9: Merge(0, 0) used only %d coins", 3-alone.Left())
		}
	}
}

func TestMergeIntoItselfWithTooFewCoins(t *testing.T) {
	d := deskOf(t, 1, "", 2)
	add(t, d, 0, 1, 1, 2)
	wantMergeRefused(t, d, 0, 0, api.ErrTape)
	feed(t, d, "1")
	merge(t, d, 0, 0)
	wantLevels(t, d, 0, nil, []int{1, 2})
	wantLedger(t, d, 0, 1, 1, 1, 0)
	wantLeft(t, d, 0)
}

func TestMergeOfOneWithoutItems(t *testing.T) {
	d := deskOf(t, 4, "", 5, 2, 7, 5)
	add(t, d, 0, 1, 5, 1, 4, 2, 3)
	merge(t, d, 0, 2)
	merge(t, d, 0, 3)
	wantSize(t, d, 0, api.Size{K: 5, Count: 5, Items: 5, Levels: 1})
	// The lesser K makes the five items too many; without a coin K stays too.
	wantMergeRefused(t, d, 0, 1, api.ErrTape)
	feed(t, d, "01")
	merge(t, d, 0, 1)
	wantSize(t, d, 0, api.Size{K: 2, Count: 5, Items: 3, Levels: 2})
	wantLevels(t, d, 0, []int{1}, []int{2, 4})
	wantLedger(t, d, 0, 1, 1, 1, 0)
	wantEnds(t, d, 0, 1, 5)
	wantLeft(t, d, 1)
	wantSize(t, d, 1, api.Size{K: 2, Levels: 1})
	merge(t, d, 2, 0)
	wantSize(t, d, 2, api.Size{K: 2, Count: 5, Items: 3, Levels: 2})
	wantEnds(t, d, 2, 1, 5)
	wantLedger(t, d, 2, 1, 1, 1, 0)
}

func TestMergeWhereNeitherHasItems(t *testing.T) {
	d := deskOf(t, 3, "0", 9, 4, 6)
	merge(t, d, 0, 1)
	wantSize(t, d, 0, api.Size{K: 4, Levels: 1})
	merge(t, d, 0, 2)
	merge(t, d, 0, 0)
	wantSize(t, d, 0, api.Size{K: 4, Levels: 1})
	if a, b, e := d.Ends(0); a != 0 || b != 0 || e != api.ErrEmpty {
		t.Errorf("P7: Ends(0) = %d, %d, %d, want ErrEmpty", a, b, e)
	}
	wantLeft(t, d, 1)
	add(t, d, 0, 1, 8)
	wantEnds(t, d, 0, 8, 8)
}

func TestMergeEnds(t *testing.T) {
	for _, c := range []struct {
		into, comes []int
		a, b        int
	}{
		{[]int{5}, []int{7}, 5, 7},
		{[]int{7}, []int{5}, 5, 7},
		{[]int{-5, -9}, []int{-7}, -9, -5},
		{[]int{-7}, []int{-5, -9}, -9, -5},
		{nil, []int{-5, -9}, -9, -5},
		{nil, []int{5, 9}, 5, 9},
		{[]int{5, 9}, nil, 5, 9},
		{[]int{-5, -9}, nil, -9, -5},
		{[]int{highest}, []int{lowest}, lowest, highest},
		{nil, []int{lowest, highest}, lowest, highest},
	} {
		d := deskOf(t, 2, "", 8, 8)
		add(t, d, 0, 1, c.into...)
		add(t, d, 1, 1, c.comes...)
		merge(t, d, 0, 1)
		wantEnds(t, d, 0, c.a, c.b)
	}
}

func TestMergeKeepsEndsThatAreNoItems(t *testing.T) {
	d := deskOf(t, 2, "11", 2, 2)
	add(t, d, 0, 1, 1, 2, 3, 4)
	add(t, d, 1, 1, -1, 0, 7, 9, 5)
	before := seenSketch(d, 1)
	feed(t, d, "0000")
	merge(t, d, 0, 1)
	wantEnds(t, d, 0, -1, 9)
	if after := seenSketch(d, 1); after != before {
		t.Errorf("P9: Merge(0, 1) changed sketch 1:\n%s\nis now\n%s", before, after)
	}
}

func TestMergedSketchesStayApart(t *testing.T) {
	d := deskOf(t, 2, "01010101", 4, 4)
	add(t, d, 1, 1, 4, 2, 8)
	add(t, d, 1, 2, 6)
	other := seenSketch(d, 1)
	merge(t, d, 0, 1)
	add(t, d, 0, 3, 1, 5, 9, 7)
	if now := seenSketch(d, 1); now != other {
		t.Errorf("P2: what came into sketch 0 changed sketch 1:\n%s\nis now\n%s", other, now)
	}
	own := seenSketch(d, 0)
	add(t, d, 1, 3, 11, -5, 19)
	if now := seenSketch(d, 0); now != own {
		t.Errorf("P2: what came into sketch 1 changed sketch 0:\n%s\nis now\n%s", own, now)
	}
}

func TestMergeSettlesOnce(t *testing.T) {
	// All six items are there before level 0 is thinned: were they to come in one by one, two coins would be used.
	d := deskOf(t, 2, "1000", 3, 3)
	add(t, d, 0, 1, 6, 2, 4)
	add(t, d, 1, 1, 1, 5, 3)
	merge(t, d, 0, 1)
	wantLevels(t, d, 0, nil, []int{2, 4, 6})
	wantLedger(t, d, 0, 1, 1, 1, 0)
	wantLeft(t, d, 3)
}

func TestMergeOfMoreLevels(t *testing.T) {
	d := deskOf(t, 3, "", 8, 8, 8)
	add(t, d, 0, 1, 3, 5)
	add(t, d, 1, 12, 4)
	merge(t, d, 0, 1)
	wantLevels(t, d, 0, []int{3, 5}, nil, []int{4}, []int{4})
	add(t, d, 2, 1, 9)
	merge(t, d, 0, 2)
	wantLevels(t, d, 0, []int{3, 5, 9}, nil, []int{4}, []int{4})
	wantLedger(t, d, 0, 0, 0, 0, 0, 0, 0)
}
