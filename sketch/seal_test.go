package sketch_test

import (
	"testing"

	"sketch/api"
	"sketch/sketch"
)

func seal(t *testing.T, d *sketch.Desk, s int) {
	t.Helper()
	if e := d.Seal(s); e != api.OK {
		t.Fatalf("P15: Seal(%d) = %d", s, e)
	}
}

func TestSealErrorsInTheirOrder(t *testing.T) {
	d := deskOf(t, 3, "01", 4, 4)
	add(t, d, 0, 1, 5, 3)
	before := seen(d)
	for _, s := range oddNumbers {
		if s == 0 || s == 1 {
			continue
		}
		if e := d.Seal(s); e != api.ErrSketch {
			t.Errorf("P15: Seal(%d) = %d, want ErrSketch", s, e)
		}
	}
	if after := seen(d); after != before {
		t.Errorf("P1: Seal was refused, yet:\n%s\nis now\n%s", before, after)
	}
	seal(t, d, 0)
	before = seen(d)
	for range 3 {
		if e := d.Seal(0); e != api.ErrSealed {
			t.Errorf("P15: Seal(0) once more = %d, want ErrSealed", e)
		}
	}
	if after := seen(d); after != before {
		t.Errorf("P1: Seal was refused, yet:\n%s\nis now\n%s", before, after)
	}
	seal(t, d, 1)
}

// wantSealed tells that nothing comes into sketch s, whatever else there is against it, and that nothing has changed.
func wantSealed(t *testing.T, d *sketch.Desk, s int) {
	t.Helper()
	before := seen(d)
	for _, w := range oddNumbers {
		if e := d.Add(s, 7, w); e != api.ErrSealed {
			t.Errorf("P6: Add(%d, 7, %d) where it is sealed = %d, want ErrSealed", s, w, e)
		}
	}
	for _, o := range oddNumbers {
		want := api.ErrSealed
		if _, e := d.Size(o); e != api.OK {
			want = api.ErrSketch
		}
		if e := d.Merge(s, o); e != want {
			t.Errorf("P9: Merge(%d, %d) where the first is sealed = %d, want %d", s, o, e, want)
		}
	}
	for _, sender := range oddNumbers {
		for _, seq := range oddNumbers {
			for _, text := range []string{textOfNone, textOfFive, "", textOfFive + "x"} {
				if e := d.Take(s, sender, seq, text); e != api.ErrSealed {
					t.Errorf("P16: Take(%d, %d, %d, %q) where it is sealed = %d, want ErrSealed", s, sender, seq, text, e)
				}
			}
		}
	}
	if after := seen(d); after != before {
		t.Errorf("P15: sketch %d is sealed, yet:\n%s\nis now\n%s", s, before, after)
	}
}

func TestNothingComesIntoASealedSketch(t *testing.T) {
	d := deskOf(t, 8, "", 2, 2, 2, 64)
	add(t, d, 0, 1, 5, 3)
	add(t, d, 1, api.MaxCount, 4)
	for i := range api.MaxTaken {
		take(t, d, 2, i, i, textOfNone)
	}
	for s := range 4 {
		seal(t, d, s)
		wantSealed(t, d, s)
	}
	feed(t, d, "0101")
	for s := range 4 {
		wantSealed(t, d, s)
	}
}

func TestSealedSketchIsToldAsBefore(t *testing.T) {
	d := someDesk(t)
	left := d.Left()
	for s := range 7 {
		before, said := seenSketch(d, s), told(d, s)
		seal(t, d, s)
		if after := seenSketch(d, s); after != before {
			t.Errorf("P15: Seal(%d) changed\n%s\nto\n%s", s, before, after)
		}
		if after := told(d, s); after != said {
			t.Errorf("P15: behind Seal(%d) is told\n%s\nnot\n%s", s, after, said)
		}
	}
	wantLeft(t, d, left)
}

func TestSealedSketchComesIntoOthers(t *testing.T) {
	d := exampleDesk(t)
	seal(t, d, 1)
	merge(t, d, 0, 1)
	wantLevels(t, d, 0, nil, []int{2, 4, 5, 7}, []int{4})
	wantSize(t, d, 0, api.Size{K: 2, Count: 12, Items: 5, Levels: 3})
	// What came out of the sealed sketch has not sealed this one.
	merge(t, d, 0, 0)
	take(t, d, 0, 1, 1, encode(t, d, 1))
	add(t, d, 0, 1, 8)
	wantLevels(t, d, 0, []int{8}, []int{4}, []int{2}, []int{4, 4, 5})
	wantSize(t, d, 0, api.Size{K: 2, Count: 31, Items: 6, Levels: 4})
	wantLevels(t, d, 1, nil, []int{4}, []int{4})
	wantSealed(t, d, 1)
}

func TestSealIsOfOneSketchAlone(t *testing.T) {
	d := deskOf(t, 4, "", 9, 9, 9)
	seal(t, d, 1)
	if s, e := d.Open(9); s != 3 || e != api.OK {
		t.Errorf("P5: Open behind Seal = %d, %d, want 3, OK", s, e)
	}
	for _, s := range []int{0, 2, 3} {
		add(t, d, s, 1, 5)
		merge(t, d, s, 1)
		take(t, d, s, 0, 0, textOfFive)
	}
	wantSealed(t, d, 1)
	other := deskOf(t, 2, "", 9, 9)
	add(t, other, 1, 1, 5)
}

func TestTextDoesNotTellOfASeal(t *testing.T) {
	d := deskOf(t, 2, "", 2)
	add(t, d, 0, 1, 5)
	seal(t, d, 0)
	wantText(t, d, 0, textOfFive)
	decode(t, d, encode(t, d, 0), 1)
	add(t, d, 1, 1, 7)
	wantLevels(t, d, 1, []int{5, 7})
	seal(t, d, 1)
	wantSealed(t, d, 0)
	wantSealed(t, d, 1)
}
