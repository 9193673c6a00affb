package sketch_test

import (
	"slices"
	"strings"
	"testing"

	"sketch/sketch"
)

func TestCallsOnOtherDesksMeanNothing(t *testing.T) {
	alone := deskOf(t, 2, "0101101", 2, 3)
	add(t, alone, 0, 1, 8, 6, 4, 2, 9, 7)
	add(t, alone, 1, 3, 1, 2, 3, 4)
	merge(t, alone, 1, 0)
	beside := deskOf(t, 2, "0101101", 2, 3)
	other := deskOf(t, 8, "111111", 2)
	for _, x := range []int{8, 6, 4, 2, 9, 7} {
		add(t, beside, 0, 1, x)
		add(t, other, 0, 1, -x)
	}
	other.Open(4)
	add(t, beside, 1, 3, 1, 2, 3, 4)
	merge(t, other, 1, 0)
	merge(t, beside, 1, 0)
	take(t, alone, 0, 1, 1, textOfFive)
	seal(t, alone, 1)
	take(t, other, 0, 1, 1, textOfFive)
	seal(t, other, 0)
	take(t, beside, 0, 1, 1, textOfFive)
	seal(t, beside, 1)
	if one, two := seen(alone), seen(beside); one != two {
		t.Errorf("P2: the same calls, beside those on another desk:\n%s\n%s", one, two)
	}
}

func TestOtherSketchesStay(t *testing.T) {
	d := deskOf(t, 3, strings.Repeat("01", 20), 2, 2, 2)
	add(t, d, 0, 1, 1, 2, 3)
	add(t, d, 2, 1, 4, 5, 6)
	add(t, d, 1, 5, 50, -50, 7, 8)
	merge(t, d, 1, 0)
	merge(t, d, 1, 1)
	wantLevels(t, d, 0, []int{1}, []int{2})
	wantLevels(t, d, 2, []int{4}, []int{6})
}

func TestListsThatComeOutAreFresh(t *testing.T) {
	d := deskOf(t, 1, "0", 4)
	add(t, d, 0, 1, 6, 4, 5)
	add(t, d, 0, 2, 1)
	before := seen(d)
	for range 2 {
		for h := range 2 {
			items, _ := d.Level(0, h)
			spoil(items)
		}
		ledger, _ := d.Ledger(0)
		spoil(ledger.Times)
		parts, _ := d.Split(0, []int{1, 5})
		spoil(parts)
		if after := seen(d); after != before {
			t.Fatalf("P2: lists that came out were written into:\n%s\nis now\n%s", before, after)
		}
	}
	kept, _ := d.Level(0, 0)
	ledger, _ := d.Ledger(0)
	add(t, d, 0, 1, 3, 2, 1, 0)
	if !slices.Equal(kept, []int{4, 5, 6}) || !slices.Equal(ledger.Times, []int{0, 0}) {
		t.Errorf("P2: lists that came out have changed: %v, %v", kept, ledger.Times)
	}
}

// spoil writes into a list and into its spare room.
func spoil(list []int) {
	list = list[:cap(list)]
	for i := range list {
		list[i] = 99
	}
}

func TestNoCallPanics(t *testing.T) {
	texts := []string{"", "0", "x", "SK", "SK\x02\x01\x00\x00\x00\x00\x00\xa1\x57", strings.Repeat("1", 5000), strings.Repeat("\xff", 5000)}
	for _, a := range oddNumbers {
		sketch.New(a)
		for _, b := range oddNumbers {
			d := deskOf(t, 3, "0101", 2, 64)
			add(t, d, 0, 3, 1, 2, 3)
			for _, text := range texts {
				d.Feed(text)
				d.Decode(text)
				d.Take(a, b, b, text)
			}
			for _, c := range oddNumbers {
				d.Add(a, b, c)
				d.Take(a, b, c, texts[4])
			}
			d.Open(a)
			d.Size(a)
			d.Ends(a)
			d.Level(a, b)
			d.Ledger(a)
			d.Merge(a, b)
			d.Rank(a, b)
			d.Quantile(a, b)
			d.Split(a, []int{b, b})
			d.Split(a, []int{b})
			d.Split(a, oddNumbers)
			d.Split(a, nil)
			d.Encode(a)
			d.Seal(a)
			d.Add(a, b, b)
			d.Merge(a, b)
			d.Take(a, b, b, texts[4])
			d.Encode(a)
			d.Left()
		}
	}
}
