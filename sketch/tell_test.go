package sketch_test

import (
	"testing"

	"sketch/api"
)

func TestSizeAndEnds(t *testing.T) {
	d := deskOf(t, 2, "0110", 2, 3)
	add(t, d, 0, 1, 5, 3, 9, 1, 7, 2)
	if size, e := d.Size(0); e != api.OK || size != (api.Size{K: 2, Count: 6, Items: 3, Levels: 2}) {
		t.Errorf("P7: Size(0) = %+v, %d, want 2, 6, 3, 2", size, e)
	}
	// Neither 1 nor 9 is an item any more.
	if a, b, e := d.Ends(0); a != 1 || b != 9 || e != api.OK {
		t.Errorf("P7: Ends(0) = %d, %d, %d, want 1, 9, OK", a, b, e)
	}
	if a, b, e := d.Ends(1); a != 0 || b != 0 || e != api.ErrEmpty {
		t.Errorf("P7: Ends(1) = %d, %d, %d, want 0, 0, ErrEmpty", a, b, e)
	}
}

func TestEndsOnOneSideOfZero(t *testing.T) {
	for _, c := range []struct {
		xs   []int
		a, b int
	}{
		{[]int{-4}, -4, -4},
		{[]int{6}, 6, 6},
		{[]int{-4, -9}, -9, -4},
		{[]int{4, 9}, 4, 9},
		{[]int{highest, 0}, 0, highest},
		{[]int{lowest, highest}, lowest, highest},
	} {
		d := deskOf(t, 1, "", 8)
		add(t, d, 0, 1, c.xs...)
		if a, b, e := d.Ends(0); a != c.a || b != c.b || e != api.OK {
			t.Errorf("P7: Ends behind %v = %d, %d, %d, want %d, %d", c.xs, a, b, e, c.a, c.b)
		}
	}
}

func TestEndsBehindARefusedAdd(t *testing.T) {
	d := deskOf(t, 1, "", 2)
	add(t, d, 0, 1, 5, 3)
	for _, x := range []int{lowest, highest} {
		d.Add(0, x, 1)
		d.Add(0, x, 0)
		d.Add(0, x, highest)
	}
	if a, b, e := d.Ends(0); a != 3 || b != 5 || e != api.OK {
		t.Errorf("P1: Ends(0) = %d, %d, %d, want 3, 5", a, b, e)
	}
}

func TestLevelIsInRisingOrder(t *testing.T) {
	d := deskOf(t, 1, "", 8)
	add(t, d, 0, 1, 4, highest, -4, lowest, 4, 0)
	wantLevels(t, d, 0, []int{lowest, -4, 0, 4, 4, highest})
	add(t, d, 0, 2, 2, 1)
	wantLevels(t, d, 0, []int{lowest, -4, 0, 4, 4, highest}, []int{1, 2})
}

func TestThinnedNumbersAtTheEdges(t *testing.T) {
	d := deskOf(t, 1, "1", 3)
	add(t, d, 0, 1, highest, lowest, 0, lowest)
	wantLevels(t, d, 0, nil, []int{lowest, highest})
}

func TestTellWithoutSuchASketchOrLevel(t *testing.T) {
	d := deskOf(t, 3, "", 2, 2)
	add(t, d, 0, 2, 1)
	for _, s := range oddNumbers {
		if s == 0 || s == 1 {
			continue
		}
		if size, e := d.Size(s); size != (api.Size{}) || e != api.ErrSketch {
			t.Errorf("P7: Size(%d) = %+v, %d, want ErrSketch", s, size, e)
		}
		if a, b, e := d.Ends(s); a != 0 || b != 0 || e != api.ErrSketch {
			t.Errorf("P7: Ends(%d) = %d, %d, %d, want ErrSketch", s, a, b, e)
		}
		if ledger, e := d.Ledger(s); ledger.Times != nil || ledger.Error != 0 || ledger.Spread != 0 || e != api.ErrSketch {
			t.Errorf("P8: Ledger(%d) = %+v, %d, want ErrSketch", s, ledger, e)
		}
		for _, h := range oddNumbers {
			if items, e := d.Level(s, h); items != nil || e != api.ErrSketch {
				t.Errorf("P8: Level(%d, %d) = %v, %d, want ErrSketch", s, h, items, e)
			}
		}
	}
	for _, h := range oddNumbers {
		items, e := d.Level(0, h)
		if h != 0 && h != 1 && (items != nil || e != api.ErrArg) {
			t.Errorf("P8: Level(0, %d) = %v, %d, want ErrArg", h, items, e)
		}
	}
}

func TestLedgerCountsEachLevel(t *testing.T) {
	d := deskOf(t, 1, "0000", 2)
	add(t, d, 0, 4, 1, 2, 3, 4, 5, 6)
	wantLedger(t, d, 0, 0, 0, 0, 0, 0)
	add(t, d, 0, 4, 7)
	wantLevels(t, d, 0, nil, nil, []int{1}, []int{2, 4, 6})
	wantLedger(t, d, 0, 4, 16, 0, 0, 1, 0)
	add(t, d, 0, 1, 8, 9, 10, 11)
	wantLevels(t, d, 0, []int{8, 9, 10, 11}, nil, []int{1}, []int{2, 4, 6})
	add(t, d, 0, 1, 12)
	wantLevels(t, d, 0, []int{8}, []int{9, 11}, []int{1}, []int{2, 4, 6})
	wantLedger(t, d, 0, 5, 17, 1, 0, 1, 0)
	wantLeft(t, d, 2)
}
