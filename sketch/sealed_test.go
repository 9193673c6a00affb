package sketch

import (
	"testing"

	"sketch/api"
)

func TestNothingComesIntoASealedSketch(t *testing.T) {
	d, _ := New(2)
	d.Open(2)
	d.Open(2)
	d.Add(0, 5, 1)
	d.sketches[0].sealed = true
	for _, w := range []int{1, 0, -1, api.MaxCount, api.MaxCount + 1} {
		if e := d.Add(0, 7, w); e != api.ErrSealed {
			t.Errorf("P6: Add(0, 7, %d) where 0 is sealed = %d, want ErrSealed", w, e)
		}
	}
	if size, _ := d.Size(0); size.Count != 1 {
		t.Errorf("P6: a sealed sketch has the count %d, want 1", size.Count)
	}
	if e := d.Add(1, 7, 1); e != api.OK {
		t.Errorf("P6: Add(1, 7, 1) where only 0 is sealed = %d", e)
	}
}
