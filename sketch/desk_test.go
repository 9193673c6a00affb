package sketch_test

import (
	"strings"
	"testing"

	"sketch/api"
	"sketch/sketch"
)

func TestNew(t *testing.T) {
	for _, room := range oddNumbers {
		d, e := sketch.New(room)
		if room >= 1 && room <= 8 {
			if d == nil || e != api.OK {
				t.Errorf("P3: New(%d) = %v, %d, want a desk", room, d, e)
			}
			continue
		}
		if d != nil || e != api.ErrArg {
			t.Errorf("P3: New(%d) = %v, %d, want nil, ErrArg", room, d, e)
		}
	}
}

func TestNewDeskIsEmpty(t *testing.T) {
	d := deskOf(t, 8, "")
	wantLeft(t, d, 0)
	if _, e := d.Size(0); e != api.ErrSketch {
		t.Errorf("P3: Size(0) on a new desk: %d, want ErrSketch", e)
	}
}

func TestFeed(t *testing.T) {
	d := deskOf(t, 1, "")
	for _, c := range []struct {
		coins string
		e     api.Errno
		left  int
	}{
		{"", api.OK, 0},
		{"x", api.ErrCoin, 0},
		{"0", api.OK, 1},
		{"10", api.OK, 3},
		{"012", api.ErrCoin, 3},
		{"/01", api.ErrCoin, 3},
		{"0\n", api.ErrCoin, 3},
		{"0\x00", api.ErrCoin, 3},
		{"\xff\xfe", api.ErrCoin, 3},
		{strings.Repeat("1", 1022), api.ErrRoom, 3},
		{strings.Repeat("1", 1022) + "x", api.ErrCoin, 3},
		{strings.Repeat("1", 1021), api.OK, 1024},
		{"", api.OK, 1024},
		{"0", api.ErrRoom, 1024},
		{"2", api.ErrCoin, 1024},
	} {
		if e := d.Feed(c.coins); e != c.e {
			t.Errorf("P4: Feed(%.20q...) = %d, want %d", c.coins, e, c.e)
		}
		wantLeft(t, d, c.left)
	}
}

func TestUsedCoinsMakeRoom(t *testing.T) {
	d := deskOf(t, 1, strings.Repeat("0", 1024), 2)
	add(t, d, 0, 1, 1, 2, 3)
	wantLeft(t, d, 1023)
	if e := d.Feed("11"); e != api.ErrRoom {
		t.Errorf("P4: Feed of two coins where one has room: %d, want ErrRoom", e)
	}
	feed(t, d, "1")
	wantLeft(t, d, 1024)
}

func TestCoinsAreUsedFromTheFirst(t *testing.T) {
	for _, coins := range []string{"0011", "0101", "1000", "0110"} {
		d := deskOf(t, 4, coins[:1], 2, 2, 2, 2)
		feed(t, d, coins[1:3])
		feed(t, d, coins[3:])
		for s := range coins {
			add(t, d, s, 1, 10, 20, 30)
			want := []int{20}
			if coins[s] == '1' {
				want = []int{30}
			}
			wantLevels(t, d, s, []int{10}, want)
			wantLeft(t, d, 3-s)
		}
	}
}

func TestOpen(t *testing.T) {
	for _, k := range oddNumbers {
		d := deskOf(t, 1, "")
		n, e := d.Open(k)
		if k >= 2 && k <= 64 {
			size, _ := d.Size(0)
			if n != 0 || e != api.OK || size.K != k {
				t.Errorf("P5: Open(%d) = %d, %d, Size %+v", k, n, e, size)
			}
			continue
		}
		if n != 0 || e != api.ErrArg {
			t.Errorf("P5: Open(%d) = %d, %d, want 0, ErrArg", k, n, e)
		}
		if _, e := d.Size(0); e != api.ErrSketch {
			t.Errorf("P5: Open(%d) was refused, yet sketch 0 is there", k)
		}
	}
}

func TestOpenWithoutRoom(t *testing.T) {
	for room := 1; room <= 8; room++ {
		d := deskOf(t, room, "", []int{2, 3, 4, 5, 61, 62, 63, 64}[:room]...)
		if n, e := d.Open(2); n != 0 || e != api.ErrRoom {
			t.Errorf("P5: Open above room %d = %d, %d, want 0, ErrRoom", room, n, e)
		}
		if n, e := d.Open(65); n != 0 || e != api.ErrArg {
			t.Errorf("P5: Open(65) above room %d = %d, %d, want 0, ErrArg", room, n, e)
		}
		if _, e := d.Size(room); e != api.ErrSketch {
			t.Errorf("P5: above room %d there is a sketch: %d", room, e)
		}
	}
}

func TestJustBegun(t *testing.T) {
	d := deskOf(t, 2, "", 2, 64)
	for s, k := range []int{2, 64} {
		size, e := d.Size(s)
		if e != api.OK || size != (api.Size{K: k, Levels: 1}) {
			t.Errorf("P7: Size(%d) = %+v, %d, want %d, 0, 0, 1", s, size, e, k)
		}
		wantLevels(t, d, s, nil)
		wantLedger(t, d, s, 0, 0, 0)
	}
}
