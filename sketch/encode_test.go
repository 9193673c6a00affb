package sketch_test

import (
	"fmt"
	"slices"
	"strings"
	"testing"

	"sketch/api"
	"sketch/sketch"
)

const (
	textOfNone = "SK\x02\x01" + "\x00\x00\x00\x00\x00" + "\xa1\x57"
	textOfFive = "SK\x02\x01" + "\x01\x00\x00\x00\x00" + "\x05\x00\x00\x00\x00\x00\x00\x00" + "\x05\x00\x00\x00\x00\x00\x00\x00" + "\x05\x00\x00\x00\x00\x00\x00\x00" + "\xb1\x7c"
)

func encode(t *testing.T, d *sketch.Desk, s int) string {
	t.Helper()
	text, e := d.Encode(s)
	if e != api.OK {
		t.Fatalf("P13: Encode(%d) = %q, %d", s, text, e)
	}
	return text
}

// decode begins a sketch, which must have this number.
func decode(t *testing.T, d *sketch.Desk, text string, want int) {
	t.Helper()
	if s, e := d.Decode(text); s != want || e != api.OK {
		t.Fatalf("P14: Decode(%q) = %d, %d, want %d, OK", text, s, e, want)
	}
}

func wantText(t *testing.T, d *sketch.Desk, s int, want string) {
	t.Helper()
	if text, e := d.Encode(s); text != want || e != api.OK {
		t.Errorf("P13: Encode(%d) = %q, %d, want %q", s, text, e, want)
	}
}

func TestEncodeExamples(t *testing.T) {
	d := deskOf(t, 2, "", 2, 2)
	wantText(t, d, 0, textOfNone)
	add(t, d, 1, 1, 5)
	wantText(t, d, 1, textOfFive)
}

func TestEncodeWritesEveryPart(t *testing.T) {
	d := exampleDesk(t)
	wantText(t, d, 0, partsOf(2, nil, []int{2, 5, 7}).thinned(2, 0).ends(1, 9).text())
	wantText(t, d, 1, partsOf(2, nil, []int{4}, []int{4}).text())
	merge(t, d, 0, 1)
	merge(t, d, 0, 0)
	wantText(t, d, 0, partsOf(2, nil, nil, []int{2, 4, 4, 4, 5, 7}).thinned(4, 1, 0).ends(1, 9).text())
}

func TestEncodeNumbersAtTheEdges(t *testing.T) {
	for _, x := range oddNumbers {
		d := deskOf(t, 1, "", 64)
		add(t, d, 0, 1, x, -1, 0x0102030405060708)
		wantText(t, d, 0, partsOf(64, slices.Sorted(slices.Values([]int{x, -1, 0x0102030405060708}))).text())
	}
	d := deskOf(t, 1, "", 2)
	add(t, d, 0, 1, -2)
	number := "\xfe\xff\xff\xff\xff\xff\xff\xff"
	wantText(t, d, 0, signed("SK\x02\x01\x01\x00\x00\x00\x00"+number+number+number))
}

func TestEncodeManyTimes(t *testing.T) {
	// Level 0 is thinned more often than one byte could tell.
	d := deskOf(t, 1, "", 2)
	for range 300 {
		feed(t, d, strings.Repeat("01", 100)[:200-d.Left()])
		add(t, d, 0, 1, 7, 7, 7, 7)
	}
	ledger, _ := d.Ledger(0)
	if ledger.Times[0] < 256 {
		t.Fatalf("level 0 was thinned %d times only", ledger.Times[0])
	}
	size, _ := d.Size(0)
	levels := [][]int{}
	for h := range size.Levels {
		items, _ := d.Level(0, h)
		levels = append(levels, items)
	}
	wantText(t, d, 0, partsOf(2, levels...).thinned(ledger.Times...).text())
}

func TestEncodeOfTheMostLevels(t *testing.T) {
	d := deskOf(t, 3, "", 64, 2, 64)
	add(t, d, 0, api.MaxCount, 3)
	levels := make([][]int, 29)
	levels[28] = []int{3}
	wantText(t, d, 0, partsOf(64, levels...).text())
	add(t, d, 1, api.MaxCount-1, lowest)
	levels = slices.Repeat([][]int{{lowest}}, 28)
	wantText(t, d, 1, partsOf(2, levels...).text())
}

func TestEncodeWithoutSuchASketch(t *testing.T) {
	d := exampleDesk(t)
	for _, s := range oddNumbers {
		text, e := d.Encode(s)
		if s == 0 || s == 1 {
			continue
		}
		if text != "" || e != api.ErrSketch {
			t.Errorf("P13: Encode(%d) = %q, %d, want ErrSketch", s, text, e)
		}
	}
}

func TestEncodeChangesNothing(t *testing.T) {
	d := exampleDesk(t)
	before := seen(d)
	text := encode(t, d, 0)
	if after := seen(d); after != before {
		t.Errorf("P2: Encode changed\n%s\nto\n%s", before, after)
	}
	wantText(t, d, 0, text)
}

// someDesk has sketches of many kinds, and room for one more.
func someDesk(t *testing.T) *sketch.Desk {
	t.Helper()
	d := deskOf(t, 8, strings.Repeat("0110100110", 100), 2, 2, 2, 64, 10, 3, 5)
	add(t, d, 1, 1, 5)
	add(t, d, 2, 1, 5, 3, 9, 1, 7, 2)
	add(t, d, 3, api.MaxCount, highest)
	for i := range 300 {
		add(t, d, 4, 1+i%7, i*7919%1000-500)
		add(t, d, 5, 1, []int{lowest, highest, -1, 0, 1}[i%5])
	}
	add(t, d, 6, 1, 8)
	merge(t, d, 6, 5)
	merge(t, d, 6, 4)
	return d
}

// wantTwins tells that two sketches are told alike in all.
func wantTwins(t *testing.T, d *sketch.Desk, s, o int) {
	t.Helper()
	if one, two := seenSketch(d, s), seenSketch(d, o); one != two {
		t.Errorf("P14: sketch %d: %s\nsketch %d: %s", s, one, o, two)
	}
	if one, two := told(d, s), told(d, o); one != two {
		t.Errorf("P14: of sketch %d is told %s\nof sketch %d %s", s, one, o, two)
	}
}

// told writes what Rank, Quantile and Split say of a sketch, at its items, its ends and odd numbers.
func told(d *sketch.Desk, s int) string {
	size, _ := d.Size(s)
	a, b, e := d.Ends(s)
	text := fmt.Sprint(a, b, e)
	numbers := append([]int{a, a - 1, b, b + 1}, oddNumbers...)
	for h := range size.Levels {
		items, _ := d.Level(s, h)
		numbers = append(numbers, items...)
	}
	numbers = slices.Compact(slices.Sorted(slices.Values(numbers)))
	for _, q := range numbers {
		rank, e := d.Rank(s, q)
		text += fmt.Sprint(rank, e)
	}
	for r := range 20 {
		x, e := d.Quantile(s, r*size.Count/19)
		text += fmt.Sprint(" ", x, e)
	}
	for cuts := range slices.Chunk(numbers, 11) {
		weights, e := d.Split(s, cuts)
		text += fmt.Sprint(weights, e)
	}
	return text
}

func TestTextIsReadBack(t *testing.T) {
	for s := range 7 {
		d := someDesk(t)
		left := d.Left()
		text := encode(t, d, s)
		decode(t, d, text, 7)
		wantTwins(t, d, s, 7)
		wantText(t, d, 7, text)
		wantLeft(t, d, left)
	}
}

func TestSketchOfATextGoesOnAlike(t *testing.T) {
	for s := range 7 {
		one, two := someDesk(t), someDesk(t)
		decode(t, two, encode(t, two, s), 7)
		for i := range 100 {
			w := 1 + i%3
			x := i * 331 % 97
			if a, b := one.Add(s, x, w), two.Add(7, x, w); a != b {
				t.Fatalf("P14: Add(%d, %d, %d) = %d, and to the one read from its text %d", s, x, w, a, b)
			}
		}
		if a, b := seenSketch(one, s), seenSketch(two, 7); a != b || one.Left() != two.Left() {
			t.Errorf("P14: %s, left %d; but the one read from its text: %s, left %d", a, one.Left(), b, two.Left())
		}
	}
}

func TestSketchOfATextStaysApart(t *testing.T) {
	d := deskOf(t, 3, "010101", 4)
	add(t, d, 0, 1, 4, 2, 8)
	add(t, d, 0, 2, 6)
	text := encode(t, d, 0)
	decode(t, d, text, 1)
	add(t, d, 0, 3, 1, 5, 9, 7)
	wantText(t, d, 1, text)
	own := encode(t, d, 0)
	add(t, d, 1, 3, 11, -5, 19)
	wantText(t, d, 0, own)
	decode(t, d, text, 2)
	wantText(t, d, 2, text)
}

func TestTextOfAnotherDesk(t *testing.T) {
	from := someDesk(t)
	for s := range 7 {
		d := deskOf(t, 1, "")
		text := encode(t, from, s)
		decode(t, d, text, 0)
		wantText(t, d, 0, text)
		if one, two := seenSketch(from, s), seenSketch(d, 0); one != two {
			t.Errorf("P14: %s; read on another desk: %s", one, two)
		}
	}
}

func TestSketchOfATextMerges(t *testing.T) {
	d := exampleDesk(t)
	decode(t, d, encode(t, d, 1), 2)
	merge(t, d, 0, 2)
	wantLevels(t, d, 0, nil, []int{2, 4, 5, 7}, []int{4})
	wantLedger(t, d, 0, 2, 2, 2, 0, 0)
	wantEnds(t, d, 0, 1, 9)
	wantTwins(t, d, 1, 2)
}
