package sketch_test

import (
	"strings"
	"testing"

	"sketch/api"
)

func TestAddExample(t *testing.T) {
	d := deskOf(t, 3, "0110", 2, 2)
	add(t, d, 0, 1, 5, 3)
	wantLevels(t, d, 0, []int{3, 5})
	add(t, d, 0, 1, 9)
	wantLevels(t, d, 0, []int{3}, []int{5})
	add(t, d, 0, 1, 1, 7)
	wantLevels(t, d, 0, []int{1, 3, 7}, []int{5})
	wantLeft(t, d, 3)
	add(t, d, 0, 1, 2)
	wantLevels(t, d, 0, nil, []int{2, 5, 7})
	wantLedger(t, d, 0, 2, 2, 2, 0)
	wantLeft(t, d, 2)
	add(t, d, 1, 6, 4)
	wantLevels(t, d, 1, nil, []int{4}, []int{4})
	wantLedger(t, d, 1, 0, 0, 0, 0, 0)
	wantLeft(t, d, 2)
}

func TestAddErrorsInTheirOrder(t *testing.T) {
	d := deskOf(t, 3, "", 2, 2)
	add(t, d, 0, 1, 5, 3)
	add(t, d, 1, api.MaxCount, 4)
	before := seen(d)
	for _, c := range []struct {
		s, w int
		e    api.Errno
	}{
		{2, 1, api.ErrSketch},
		{2, 0, api.ErrSketch},
		{-1, 0, api.ErrSketch},
		{lowest, highest, api.ErrSketch},
		{highest, 1, api.ErrSketch},
		{0, 0, api.ErrArg},
		{0, -1, api.ErrArg},
		{0, lowest, api.ErrArg},
		{1, 0, api.ErrArg},
		{1, 1, api.ErrFull},
		{1, highest, api.ErrFull},
		{0, highest, api.ErrFull},
		{0, api.MaxCount - 1, api.ErrFull},
		{0, 1, api.ErrTape},
	} {
		if e := d.Add(c.s, 7, c.w); e != c.e {
			t.Errorf("P6: Add(%d, 7, %d) = %d, want %d", c.s, c.w, e, c.e)
		}
		if after := seen(d); after != before {
			t.Errorf("P1: Add(%d, 7, %d) was refused, yet:\n%s\nis now\n%s", c.s, c.w, before, after)
		}
	}
}

func TestFullComesAheadOfTape(t *testing.T) {
	d := deskOf(t, 1, "", 2)
	add(t, d, 0, 1, 5, 3)
	add(t, d, 0, api.MaxCount-2, 4)
	if e := d.Add(0, 1, 1); e != api.ErrFull {
		t.Errorf("P6: Add above MaxCount without coins = %d, want ErrFull", e)
	}
}

func TestAddUpToMaxCount(t *testing.T) {
	d := deskOf(t, 3, "", 2, 64, 2)
	add(t, d, 0, api.MaxCount, 1)
	if size, _ := d.Size(0); size != (api.Size{K: 2, Count: api.MaxCount, Items: 1, Levels: 29}) {
		t.Errorf("P6: Size behind the weight 2^28: %+v", size)
	}
	add(t, d, 1, api.MaxCount-1, 1)
	if size, _ := d.Size(1); size != (api.Size{K: 64, Count: api.MaxCount - 1, Items: 28, Levels: 28}) {
		t.Errorf("P6: Size behind the weight 2^28 - 1: %+v", size)
	}
	if e := d.Add(1, 1, 2); e != api.ErrFull {
		t.Errorf("P6: Add to MaxCount + 1 = %d, want ErrFull", e)
	}
	add(t, d, 1, 1, 1)
	if size, _ := d.Size(1); size.Count != api.MaxCount {
		t.Errorf("P6: Size behind the weights 2^28 - 1 and 1: %+v", size)
	}
	add(t, d, 2, 6, 4)
	if e := d.Add(2, 4, 268435451); e != api.ErrFull {
		t.Errorf("P6: Add(2, 4, 268435451) = %d, want ErrFull", e)
	}
	add(t, d, 2, 268435450, 4)
}

func TestAddWithTooFewCoins(t *testing.T) {
	d := deskOf(t, 1, "", 2)
	add(t, d, 0, 1, 5, 3)
	before := seen(d)
	if e := d.Add(0, 9, 1); e != api.ErrTape {
		t.Errorf("P6: the third Add without coins = %d, want ErrTape", e)
	}
	if after := seen(d); after != before {
		t.Errorf("P1: refused, yet:\n%s\nis now\n%s", before, after)
	}
	feed(t, d, "1")
	add(t, d, 0, 1, 9)
	wantLevels(t, d, 0, []int{3}, []int{9})
	wantLeft(t, d, 0)
}

func TestAddThatUsesTwoCoins(t *testing.T) {
	d := deskOf(t, 1, "1", 2)
	add(t, d, 0, 2, 10, 20)
	add(t, d, 0, 1, 30, 40)
	before := seen(d)
	if e := d.Add(0, 50, 3); e != api.ErrTape {
		t.Errorf("P6: Add with one coin instead of two = %d, want ErrTape", e)
	}
	if after := seen(d); after != before {
		t.Errorf("P1: refused, yet:\n%s\nis now\n%s", before, after)
	}
	feed(t, d, "00")
	add(t, d, 0, 3, 50)
	wantLevels(t, d, 0, []int{30}, nil, []int{10, 50})
	wantLedger(t, d, 0, 3, 5, 1, 1, 0)
	wantLeft(t, d, 1)
}

func TestLevelMadeOnTopLetsLowerLevelsHoldLess(t *testing.T) {
	d := deskOf(t, 1, "00", 4)
	add(t, d, 0, 1, 1, 2, 3, 4)
	wantLeft(t, d, 2)
	// The capacities are 3 and 4 once there are two levels: level 0 may go on holding 4 as long as the sum does.
	add(t, d, 0, 2, 5, 6, 7)
	wantLevels(t, d, 0, []int{1, 2, 3, 4}, []int{5, 6, 7})
	add(t, d, 0, 2, 8)
	wantLevels(t, d, 0, nil, []int{1, 3, 5, 6, 7, 8})
	wantLeft(t, d, 1)
}

func TestAddOfOneUsesOneCoinAtMost(t *testing.T) {
	for _, k := range []int{2, 3, 7, 64} {
		d := deskOf(t, 1, strings.Repeat("01", 512), k)
		for i := 0; d.Left() > 0 && i < 50000; i++ {
			left := d.Left()
			add(t, d, 0, 1, i*7919%1000)
			if d.Left() < left-1 {
				t.Fatalf("P17: Add %d with K %d used %d coins", i, k, left-d.Left())
			}
		}
	}
}
