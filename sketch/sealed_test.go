package sketch

import (
	"testing"

	"sketch/api"
)

func TestNothingComesIntoASealedSketch(t *testing.T) {
	d, _ := New(2)
	d.Open(2)
	d.Open(2)
	d.Add(0, 5, 1)
	d.sketches[0].sealed = true
	for _, w := range []int{1, 0, -1, api.MaxCount, api.MaxCount + 1} {
		if e := d.Add(0, 7, w); e != api.ErrSealed {
			t.Errorf("P6: Add(0, 7, %d) where 0 is sealed = %d, want ErrSealed", w, e)
		}
	}
	if size, _ := d.Size(0); size.Count != 1 {
		t.Errorf("P6: a sealed sketch has the count %d, want 1", size.Count)
	}
	if e := d.Add(1, 7, 1); e != api.OK {
		t.Errorf("P6: Add(1, 7, 1) where only 0 is sealed = %d", e)
	}
}

func TestNothingMergesIntoASealedSketch(t *testing.T) {
	d, _ := New(3)
	d.Open(2)
	d.Open(2)
	d.Open(2)
	d.Add(0, 5, 1)
	d.Add(1, 6, 1)
	d.Add(1, 7, 1)
	d.Add(2, 4, api.MaxCount)
	d.sketches[0].sealed = true
	// Too many come in and there are no coins: that it is sealed comes first.
	for s := range 3 {
		if e := d.Merge(0, s); e != api.ErrSealed {
			t.Errorf("P9: Merge(0, %d) where 0 is sealed = %d, want ErrSealed", s, e)
		}
	}
	for _, s := range []int{-1, 3} {
		if e := d.Merge(0, s); e != api.ErrSketch {
			t.Errorf("P9: Merge(0, %d) where 0 is sealed = %d, want ErrSketch", s, e)
		}
	}
	if size, _ := d.Size(0); size.Count != 1 {
		t.Errorf("P9: a sealed sketch has the count %d, want 1", size.Count)
	}
	if e := d.Feed("0"); e != api.OK {
		t.Fatalf("P4: Feed = %d", e)
	}
	if e := d.Merge(1, 0); e != api.OK {
		t.Errorf("P9: Merge(1, 0) where 0 is sealed = %d, want OK", e)
	}
	if size, _ := d.Size(1); size.Count != 3 || d.sketches[1].sealed {
		t.Errorf("P9: behind Merge of a sealed sketch: count %d, sealed %v", size.Count, d.sketches[1].sealed)
	}
}

func TestTextDoesNotTellOfASeal(t *testing.T) {
	d, _ := New(2)
	d.Open(2)
	d.Add(0, 5, 1)
	before, _ := d.Encode(0)
	d.sketches[0].sealed = true
	text, e := d.Encode(0)
	if text != before || e != api.OK {
		t.Errorf("P13: Encode of a sealed sketch = %q, %d, want %q", text, e, before)
	}
	if s, e := d.Decode(text); s != 1 || e != api.OK {
		t.Fatalf("P14: Decode(%q) = %d, %d, want 1, OK", text, s, e)
	}
	if e := d.Add(1, 7, 1); e != api.OK {
		t.Errorf("P14: Add to a sketch out of a sealed one's text = %d, want OK", e)
	}
	if e := d.Add(0, 7, 1); e != api.ErrSealed {
		t.Errorf("P6: Add to the sealed sketch = %d, want ErrSealed", e)
	}
}
