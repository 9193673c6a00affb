package sketch_test

import (
	"fmt"
	"slices"
	"testing"

	"sketch/api"
	"sketch/sketch"
)

const lowest, highest = -1 << 63, 1<<63 - 1

// oddNumbers are numbers that calls are tried with: the edges of all limits among them.
var oddNumbers = []int{lowest, lowest + 1, -1 << 32, -1, 0, 1, 2, 3, 8, 9, 28, 29, 63, 64, 65, 255, 256, 1024, 1 << 28, 1<<28 + 1, 1 << 32, 1 << 62, highest - 1, highest}

// deskOf makes a desk with these coins, and sketches of these K.
func deskOf(t *testing.T, room int, coins string, ks ...int) *sketch.Desk {
	t.Helper()
	d, e := sketch.New(room)
	if d == nil || e != api.OK {
		t.Fatalf("P3: New(%d): %v, %d", room, d, e)
	}
	feed(t, d, coins)
	for i, k := range ks {
		if n, e := d.Open(k); n != i || e != api.OK {
			t.Fatalf("P5: Open(%d) = %d, %d, want %d, OK", k, n, e, i)
		}
	}
	return d
}

func feed(t *testing.T, d *sketch.Desk, coins string) {
	t.Helper()
	if e := d.Feed(coins); e != api.OK {
		t.Fatalf("P4: Feed(%.20q) = %d", coins, e)
	}
}

// add lets numbers come in with one weight.
func add(t *testing.T, d *sketch.Desk, s int, w int, xs ...int) {
	t.Helper()
	for _, x := range xs {
		if e := d.Add(s, x, w); e != api.OK {
			t.Fatalf("P6: Add(%d, %d, %d) = %d", s, x, w, e)
		}
	}
}

// wantLevels tells that a sketch has just these levels.
func wantLevels(t *testing.T, d *sketch.Desk, s int, want ...[]int) {
	t.Helper()
	size, e := d.Size(s)
	if e != api.OK || size.Levels != len(want) {
		t.Errorf("P7: Size(%d) = %+v, %d, want %d levels", s, size, e, len(want))
	}
	for h, items := range want {
		if got, e := d.Level(s, h); e != api.OK || !slices.Equal(got, items) {
			t.Errorf("P8: Level(%d, %d) = %v, %d, want %v", s, h, got, e, items)
		}
	}
}

// wantLedger tells that a sketch has this ledger.
func wantLedger(t *testing.T, d *sketch.Desk, s int, off int, spread int, times ...int) {
	t.Helper()
	got, e := d.Ledger(s)
	if e != api.OK || !slices.Equal(got.Times, times) || got.Error != off || got.Spread != spread {
		t.Errorf("P8: Ledger(%d) = %+v, %d, want %v, %d, %d", s, got, e, times, off, spread)
	}
}

func wantLeft(t *testing.T, d *sketch.Desk, want int) {
	t.Helper()
	if got := d.Left(); got != want {
		t.Errorf("P4: Left() = %d, want %d", got, want)
	}
}

// seen writes all that a desk tells of itself.
func seen(d *sketch.Desk) string {
	text := fmt.Sprintf("left %d", d.Left())
	for s := 0; s < api.MaxRoom; s++ {
		text += seenSketch(d, s)
		text += seenHeld(d, s)
	}
	return text
}

// someNames are reports whose being taken seen looks for.
func someNames() []name {
	names := []name{}
	for _, sender := range []int{0, 1, 255} {
		for _, seq := range []int{0, 1, highest} {
			names = append(names, name{sender, seq})
		}
	}
	return names
}

// seenHeld writes whether a sketch is sealed, and which of some reports it took.
// It asks by calls that are refused either way: for their weight and for their text.
func seenHeld(d *sketch.Desk, s int) string {
	if d.Add(s, 0, 0) == api.ErrSealed {
		return " sealed"
	}
	text := ""
	for _, n := range someNames() {
		if d.Take(s, n.sender, n.seq, "") == api.ErrTwice {
			text += fmt.Sprint(" took ", n)
		}
	}
	return text
}

// seenSketch writes all that a desk tells of what is in a sketch; nothing, if there is no such sketch.
func seenSketch(d *sketch.Desk, s int) string {
	size, e := d.Size(s)
	if e != api.OK {
		return ""
	}
	a, b, _ := d.Ends(s)
	ledger, _ := d.Ledger(s)
	text := fmt.Sprintf("; %+v, %d to %d, %+v", size, a, b, ledger)
	for h := 0; h < size.Levels; h++ {
		items, _ := d.Level(s, h)
		text += fmt.Sprint(" ", items)
	}
	written, _ := d.Encode(s)
	return text + fmt.Sprintf(" %x", written)
}
