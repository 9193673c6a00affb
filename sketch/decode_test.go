package sketch_test

import (
	"fmt"
	"math/rand"
	"slices"
	"strings"
	"testing"

	"sketch/api"
	"sketch/sketch"
)

// wantNoSketch tells that a text is refused, with room and without, and that nothing begins by it.
func wantNoSketch(t *testing.T, what, text string) {
	t.Helper()
	d := deskOf(t, 2, "01", 9)
	wantRefused(t, d, what, text, api.ErrText)
	if s, e := d.Open(3); s != 1 || e != api.OK {
		t.Errorf("P1: %s: Open behind Decode(%q) = %d, %d, want 1, OK", what, text, s, e)
	}
	wantRefused(t, d, what+", without room", text, api.ErrText)
}

// wantRefused tells that Decode answers this error and changes nothing.
func wantRefused(t *testing.T, d *sketch.Desk, what, text string, want api.Errno) {
	t.Helper()
	before := seen(d)
	if s, e := d.Decode(text); s != 0 || e != want {
		t.Errorf("P14: %s: Decode(%q) = %d, %d, want 0, %d", what, text, s, e, want)
	}
	if after := seen(d); after != before {
		t.Errorf("P1: %s: Decode(%q) was refused, yet:\n%s\nis now\n%s", what, text, before, after)
	}
}

// wantSketch tells that a text is read as a sketch that has what it says.
func wantSketch(t *testing.T, what string, p parts) {
	t.Helper()
	d := deskOf(t, 2, "", 9)
	text := p.text()
	if s, e := d.Decode(text); s != 1 || e != api.OK {
		t.Errorf("P14: %s: Decode(%q) = %d, %d, want 1, OK", what, text, s, e)
		return
	}
	wantLevels(t, d, 1, p.items...)
	if ledger, _ := d.Ledger(1); !slices.Equal(ledger.Times, p.times) {
		t.Errorf("P14: %s: times %v, want %v", what, ledger.Times, p.times)
	}
	if size, _ := d.Size(1); size.K != p.k {
		t.Errorf("P14: %s: K %d, want %d", what, size.K, p.k)
	}
	a, b, e := d.Ends(1)
	if a != p.least || b != p.greatest || (e == api.OK) != (len(slices.Concat(p.items...)) > 0) {
		t.Errorf("P14: %s: ends %d, %d, %d, want %d, %d", what, a, b, e, p.least, p.greatest)
	}
	wantText(t, d, 1, text)
	wantRefused(t, d, what, text, api.ErrRoom)
}

func TestDecodeExamples(t *testing.T) {
	d := deskOf(t, 2, "")
	decode(t, d, textOfNone, 0)
	wantSize(t, d, 0, api.Size{K: 2, Levels: 1})
	if a, b, e := d.Ends(0); a != 0 || b != 0 || e != api.ErrEmpty {
		t.Errorf("P14: Ends(0) = %d, %d, %d, want ErrEmpty", a, b, e)
	}
	decode(t, d, textOfFive, 1)
	wantSize(t, d, 1, api.Size{K: 2, Count: 1, Items: 1, Levels: 1})
	wantLevels(t, d, 1, []int{5})
	wantLedger(t, d, 1, 0, 0, 0)
	wantEnds(t, d, 1, 5, 5)
}

func TestDecodeErrorsInTheirOrder(t *testing.T) {
	for room := 1; room <= 8; room++ {
		d := deskOf(t, room, "0")
		for s := range room {
			wantRefused(t, d, "no text", "", api.ErrText)
			decode(t, d, textOfFive, s)
		}
		wantRefused(t, d, "a sketch's text", textOfFive, api.ErrRoom)
		wantRefused(t, d, "no sketch's text", textOfFive+"x", api.ErrText)
		if s, e := d.Open(2); s != 0 || e != api.ErrRoom {
			t.Errorf("P5: Open behind %d Decodes = %d, %d, want ErrRoom", room, s, e)
		}
	}
}

func TestOpenAndDecodeShareTheRoom(t *testing.T) {
	d := deskOf(t, 3, "", 4)
	decode(t, d, textOfFive, 1)
	if s, e := d.Open(7); s != 2 || e != api.OK {
		t.Errorf("P5: Open behind Decode = %d, %d, want 2, OK", s, e)
	}
	wantRefused(t, d, "a sketch's text", textOfNone, api.ErrRoom)
	wantLevels(t, d, 1, []int{5})
}

// goodTexts are texts of sketches, of which some were worked out by hand.
func goodTexts(t *testing.T) []string {
	texts := []string{
		textOfNone,
		textOfFive,
		partsOf(3, []int{lowest, 0, highest}).text(),
		partsOf(2, nil, []int{2, 5, 7}).thinned(2, 0).ends(1, 9).text(),
	}
	d := someDesk(t)
	for s := range 6 {
		texts = append(texts, encode(t, d, s))
	}
	return texts
}

func TestOneByteChanged(t *testing.T) {
	for _, text := range goodTexts(t) {
		d := deskOf(t, 1, "")
		for i := range len(text) {
			for x := 1; x < 256; x++ {
				changed := []byte(text)
				changed[i] ^= byte(x)
				if s, e := d.Decode(string(changed)); s != 0 || e != api.ErrText {
					t.Fatalf("P14: Decode(%q) where byte %d was %d = %d, %d, want ErrText", changed, i, text[i], s, e)
				}
			}
		}
		decode(t, d, text, 0)
	}
}

func TestBytesMissing(t *testing.T) {
	for _, text := range goodTexts(t) {
		for n := range len(text) {
			wantNoSketch(t, fmt.Sprint(n, " bytes of many"), text[:n])
			wantNoSketch(t, fmt.Sprint(n, " bytes of many, with their check"), signed(text[:n])[:n+1])
		}
		for n := range len(text) - 2 {
			wantNoSketch(t, fmt.Sprint(n, " bytes of many, signed"), signed(text[:n]))
			wantNoSketch(t, fmt.Sprint("without the first ", n+1), text[n+1:])
		}
	}
}

func TestBytesTooMany(t *testing.T) {
	for _, text := range goodTexts(t) {
		for x := range 256 {
			more := string([]byte{byte(x)})
			wantNoSketch(t, "one byte more", text+more)
			wantNoSketch(t, "one byte more, signed", signed(text+more))
			wantNoSketch(t, "one byte more ahead of the check", signed(text[:len(text)-2]+more))
			wantNoSketch(t, "one byte more at the head", more+text)
		}
		wantNoSketch(t, "twice", text+text)
		wantNoSketch(t, "two checks", signed(text))
		wantNoSketch(t, "a number more", signed(text[:len(text)-2]+"\x05\x00\x00\x00\x00\x00\x00\x00"))
		wantNoSketch(t, "a million bytes more", text+strings.Repeat("\x00", 1000000))
	}
}

func TestTextsThatAreNotOfTheForm(t *testing.T) {
	for _, c := range []struct{ what, text string }{
		{"nothing", ""},
		{"a check alone", signed("")},
		{"the mark alone", signed("SK")},
		{"without levels told", signed("SK\x02")},
		{"another first letter", signed("sK" + textOfNone[2:9])},
		{"another second letter", signed("Sk" + textOfNone[2:9])},
		{"letters changed about", signed("KS" + textOfNone[2:9])},
		{"both checks changed about", textOfNone[:9] + "\x57\xa1"},
		{"the first check wrong", textOfNone[:9] + "\xa2\x57"},
		{"the second check wrong", textOfNone[:9] + "\xa1\x58"},
		{"no check", textOfNone[:9]},
		{"ends where nothing came in", signed(textOfNone[:9] + strings.Repeat("\x00", 16))},
		{"no ends where something came in", signed(textOfFive[:17])},
		{"one end only", signed(textOfFive[:25])},
		{"a level that is not told", signed("SK\x02\x02" + textOfNone[4:9])},
		{"an item less than told", signed("SK\x02\x01\x02" + textOfFive[5:33])},
		{"a number in falling bytes", signed(textOfFive[:25] + "\x00\x00\x00\x00\x00\x00\x00\x05")},
		{"255 levels of 255 items", signed("SK\x02\xff" + strings.Repeat("\xff", 5*255+16+8*255*255))},
		{"255 levels of 255 items, but none there", signed("SK\x02\xff" + strings.Repeat("\xff", 5*255))},
		{"255 levels, an item on one that is too high to weigh", partsOf(2, slices.Concat(make([][]int, 254), [][]int{{5}})...).text()},
		{"coins", "0101"},
	} {
		wantNoSketch(t, c.what, c.text)
	}
}

// onTop has so many levels without items, and these above them.
func onTop(k int, none int, levels ...[]int) parts {
	return partsOf(k, slices.Concat(make([][]int, none), levels)...)
}

// many has so many fives.
func many(n int) []int {
	return slices.Repeat([]int{5}, n)
}

// Each pair of texts is of the two sides of one edge of P14.
func TestEachPointAtItsEdge(t *testing.T) {
	for _, c := range []struct {
		fault string
		good  parts
		bad   parts
	}{
		{faultK, partsOf(2, nil), partsOf(1, nil)},
		{faultK, partsOf(2, []int{5}), partsOf(0, []int{5})},
		{faultK, partsOf(64, nil), partsOf(65, nil)},
		{faultK, partsOf(64, []int{5}), partsOf(255, []int{5})},
		{faultLevels, partsOf(2, nil), partsOf(2)},
		{faultTop, partsOf(2, []int{5}), partsOf(2, []int{5}, nil)},
		{faultTop, partsOf(2, nil), partsOf(2, nil, nil)},
		{faultTop, onTop(2, 28, []int{5}), onTop(2, 29)},
		{faultCount, onTop(2, 28, []int{5}), onTop(2, 28, []int{5, 6})},
		{faultCount, onTop(2, 27, []int{5, 6}), onTop(3, 27, []int{5, 6, 7})},
		{faultCount, onTop(2, 28, []int{5}), partsOf(2, slices.Concat([][]int{{5}}, make([][]int, 27), [][]int{{5}})...)},
		{faultItems, partsOf(2, many(2)), partsOf(2, many(3))},
		{faultItems, partsOf(64, many(64)), partsOf(64, many(65))},
		{faultItems, partsOf(2, many(3), many(1)), partsOf(2, many(4), many(1))},
		{faultItems, partsOf(3, many(4), many(1)), partsOf(3, many(5), many(1))},
		{faultItems, partsOf(64, many(106), many(1)), partsOf(64, many(107), many(1))},
		{faultItems, partsOf(10, nil, nil, many(22)), partsOf(10, nil, nil, many(23))},
		{faultItems, partsOf(64, slices.Concat([][]int{many(227)}, make([][]int, 26), [][]int{many(1)})...), partsOf(64, slices.Concat([][]int{many(228)}, make([][]int, 26), [][]int{many(1)})...)},
		{faultTimes, partsOf(2, nil), partsOf(2, nil).thinned(1)},
		{faultTimes, partsOf(2, many(1)), partsOf(2, many(1)).thinned(1)},
		{faultTimes, partsOf(2, nil, many(1)).thinned(1, 0), partsOf(2, nil, many(1)).thinned(2, 0)},
		{faultTimes, partsOf(2, many(3), many(1)).thinned(1, 0), partsOf(2, many(3), many(1)).thinned(2, 0)},
		{faultTimes, partsOf(2, nil, many(1)).thinned(1, 0), partsOf(2, nil, many(1)).thinned(0, 1)},
		{faultTimes, partsOf(2, nil, many(1)).thinned(1, 0), partsOf(4, nil, many(1)).thinned(1, 0)},
		{faultTimes, partsOf(4, nil, many(2)).thinned(1, 0), partsOf(5, nil, many(2)).thinned(2, 0)},
		{faultTimes, partsOf(10, nil, many(7)).thinned(2, 0), partsOf(10, nil, many(6)).thinned(2, 0)},
		{faultTimes, partsOf(2, nil, nil, many(1)).thinned(2, 1, 0), partsOf(2, nil, nil, many(1)).thinned(3, 1, 0)},
		{faultTimes, partsOf(2, nil, nil, many(1)).thinned(2, 1, 0), partsOf(2, nil, nil, many(1)).thinned(2, 2, 0)},
		{faultTimes, partsOf(2, nil, many(2), many(1)).thinned(4, 1, 0), partsOf(2, nil, many(2), many(1)).thinned(5, 1, 0)},
		{faultTimes, partsOf(2, nil, many(2), many(1)).thinned(4, 1, 0), partsOf(2, nil, many(2), many(1)).thinned(0, 2, 0)},
		{faultTimes, onTop(2, 28, many(1)).thinned(slices.Concat([]int{1 << 27}, make([]int, 28))...), onTop(2, 28, many(1)).thinned(slices.Concat([]int{1<<27 + 1}, make([]int, 28))...)},
		{faultTimes, onTop(2, 28, many(1)).thinned(slices.Concat(make([]int, 27), []int{1, 0})...), onTop(2, 28, many(1)).thinned(slices.Concat(make([]int, 27), []int{2, 0})...)},
		{faultOrder, partsOf(3, []int{1, 2, 3}), partsOf(3, []int{1, 3, 2})},
		{faultOrder, partsOf(3, []int{1, 2, 2}), partsOf(3, []int{2, 1, 2})},
		{faultOrder, partsOf(3, []int{lowest, highest}), partsOf(3, []int{highest, lowest})},
		{faultOrder, partsOf(3, []int{9}, []int{-1, 4}), partsOf(3, []int{9}, []int{4, -1})},
		{faultBelow, partsOf(2, nil, []int{5}).thinned(1, 0).ends(5, 9), partsOf(2, nil, []int{5}).thinned(1, 0).ends(6, 9)},
		{faultBelow, partsOf(2, []int{7}, []int{5}).thinned(1, 0).ends(5, 9), partsOf(2, []int{7}, []int{5}).thinned(1, 0).ends(6, 9)},
		{faultBelow, partsOf(2, []int{5}, []int{7}).thinned(1, 0).ends(5, 9), partsOf(2, []int{5}, []int{7}).thinned(1, 0).ends(6, 9)},
		{faultBelow, partsOf(2, nil, []int{lowest}).thinned(1, 0), partsOf(2, nil, []int{lowest}).thinned(1, 0).ends(lowest+1, 9)},
		{faultAbove, partsOf(2, nil, []int{5}).thinned(1, 0).ends(1, 5), partsOf(2, nil, []int{5}).thinned(1, 0).ends(1, 4)},
		{faultAbove, partsOf(2, []int{3}, []int{5}).thinned(1, 0).ends(1, 5), partsOf(2, []int{3}, []int{5}).thinned(1, 0).ends(1, 4)},
		{faultAbove, partsOf(2, []int{5}, []int{3}).thinned(1, 0).ends(1, 5), partsOf(2, []int{5}, []int{3}).thinned(1, 0).ends(1, 4)},
		{faultAbove, partsOf(2, nil, []int{highest}).thinned(1, 0), partsOf(2, nil, []int{highest}).thinned(1, 0).ends(1, highest-1)},
		{faultLeast, partsOf(2, []int{5}), partsOf(2, []int{5}).ends(4, 5)},
		{faultLeast, partsOf(2, nil, []int{5}).thinned(1, 0).ends(4, 5), partsOf(2, nil, []int{5}).ends(4, 5)},
		{faultLeast, partsOf(2, []int{5}, []int{4}), partsOf(2, []int{5}, []int{4}).ends(lowest, 5)},
		{faultGreatest, partsOf(2, []int{5}), partsOf(2, []int{5}).ends(5, 6)},
		{faultGreatest, partsOf(2, nil, []int{5}).thinned(1, 0).ends(5, 6), partsOf(2, nil, []int{5}).ends(5, 6)},
		{faultGreatest, partsOf(2, []int{4}, []int{5}), partsOf(2, []int{4}, []int{5}).ends(4, highest)},
	} {
		if faults := c.good.faults(); len(faults) != 0 {
			t.Errorf("%+v is meant to be a sketch's, but: %v", c.good, faults)
		}
		if faults := c.bad.faults(); !slices.Equal(faults, []string{c.fault}) {
			t.Errorf("%+v is meant to fail by %s alone, but: %v", c.bad, c.fault, faults)
		}
		wantSketch(t, c.fault, c.good)
		wantNoSketch(t, c.fault, c.bad.text())
	}
}

func TestTooManyLevels(t *testing.T) {
	// With an item on level 29 the count is too great as well.
	for _, levels := range []int{30, 31, 32, 33, 63, 64, 65, 66, 128, 255} {
		wantNoSketch(t, "too many levels", onTop(2, levels-1, []int{5}).text())
		wantNoSketch(t, "too many levels without items", onTop(2, levels).text())
		wantNoSketch(t, "too many levels, an item on the lowest", partsOf(2, slices.Concat([][]int{{5}}, make([][]int, levels-1))...).text())
	}
}

func TestEachLevelIsWeighed(t *testing.T) {
	// 255 items are told on one level: their weight is above MaxCount from level 21 on, their number above the capacity.
	for h := range 29 {
		wantNoSketch(t, "255 items", onTop(64, h, many(255)).text())
	}
	wantNoSketch(t, "255 items on all levels", partsOf(64, slices.Repeat([][]int{many(255)}, 29)...).text())
}

// Times that are so great that their product with 2^h and the capacity would not fit in 32 or in 64 bits.
func TestTimesHoweverGreat(t *testing.T) {
	for _, k := range []int{2, 43, 64} {
		for _, levels := range []int{1, 2, 9, 27, 28, 29} {
			for h := range levels {
				for j := range 33 {
					p := onTop(k, levels-1, []int{5})
					p.times[h] = min(1<<j, 1<<32-1)
					d := deskOf(t, 1, "")
					want := api.OK
					if len(p.faults()) > 0 {
						want = api.ErrText
					}
					if _, e := d.Decode(p.text()); e != want {
						t.Errorf("P14: Decode of %+v = %d, want %d", p, e, want)
					}
				}
			}
		}
	}
}

func TestEndsAreLookedAtOnlyByWhatWasThinned(t *testing.T) {
	// Whichever level was thinned, the ends may have been dropped.
	wantSketch(t, "level 0 thinned", partsOf(2, nil, nil, []int{5}).thinned(1, 0, 0).ends(lowest, highest))
	wantSketch(t, "level 1 thinned", partsOf(2, nil, nil, []int{5}).thinned(0, 1, 0).ends(lowest, highest))
	wantSketch(t, "an end on each level", partsOf(2, []int{9}, []int{5}, []int{1}))
	wantSketch(t, "both ends on the top", partsOf(3, []int{5}, []int{1, 9}))
	wantNoSketch(t, "ends changed about", partsOf(2, []int{1, 9}).ends(9, 1).text())
	wantNoSketch(t, "ends changed about, thinned", partsOf(2, nil, []int{5}).thinned(1, 0).ends(9, 1).text())
	wantNoSketch(t, "ends of an item as though without sign", partsOf(2, nil, []int{-5}).thinned(1, 0).ends(0, -1).text())
}

// someParts are near to what a sketch's text may say.
func someParts(r *rand.Rand) parts {
	levels := make([][]int, 1+r.Intn(4))
	if r.Intn(8) == 0 {
		levels = make([][]int, r.Intn(32))
	}
	for h := range levels {
		for range r.Intn(4) {
			levels[h] = append(levels[h], r.Intn(9)-4)
		}
		slices.Sort(levels[h])
	}
	p := partsOf(2+r.Intn(4), levels...)
	for h := range levels {
		if r.Intn(3) == 0 {
			p.times[h] = r.Intn(3) << r.Intn(h/2+1)
		}
	}
	if len(slices.Concat(levels...)) > 0 && r.Intn(2) == 0 {
		p.least, p.greatest = p.least-r.Intn(2), p.greatest+r.Intn(2)
	}
	if r.Intn(3) == 0 {
		spoilParts(r, &p)
	}
	return p
}

// spoilParts changes one part.
func spoilParts(r *rand.Rand, p *parts) {
	h := 0
	if len(p.items) > 0 {
		h = r.Intn(len(p.items))
	}
	none := len(slices.Concat(p.items...)) == 0
	switch r.Intn(6) {
	case 0:
		p.k = r.Intn(256)
	case 1:
		if !none {
			p.least += r.Intn(3) - 1
			p.greatest += r.Intn(3) - 1
		}
	case 2:
		if len(p.items) > 0 {
			p.times[h] = int(r.Uint32() >> r.Intn(32))
		}
	case 3:
		if len(p.items) > 0 {
			p.items = slices.Clone(p.items)
			p.items[h] = slices.Clone(p.items[h])
			r.Shuffle(len(p.items[h]), func(i, j int) { p.items[h][i], p.items[h][j] = p.items[h][j], p.items[h][i] })
		}
	case 4:
		p.items = append(p.items, nil)
		p.times = append(p.times, 0)
	}
}

func TestDecodeAgainstTheListOfPoints(t *testing.T) {
	r := rand.New(rand.NewSource(5))
	good, alone := 0, map[string]int{}
	for range 60000 {
		p := someParts(r)
		faults := p.faults()
		d := deskOf(t, 1, "")
		s, e := d.Decode(p.text())
		want := api.ErrText
		if len(faults) == 0 {
			want = api.OK
			good++
		}
		if len(faults) == 1 {
			alone[faults[0]]++
		}
		if s != 0 || e != want {
			t.Fatalf("P14: Decode(%q) = %d, %d, want %d: %v of %+v", p.text(), s, e, want, faults, p)
		}
		if text, _ := d.Encode(0); e == api.OK && text != p.text() {
			t.Fatalf("P14: Decode(%q) is written as %q", p.text(), text)
		}
	}
	for _, fault := range []string{faultK, faultLevels, faultTop, faultCount, faultItems, faultTimes, faultOrder, faultBelow, faultAbove, faultLeast, faultGreatest} {
		if alone[fault] < 10 {
			t.Errorf("too few texts fail by %s alone: %d", fault, alone[fault])
		}
	}
	if good < 1000 {
		t.Errorf("only %d texts are a sketch's", good)
	}
}

// What a text says need not have come about by calls: all calls go on with it as the document says.
func TestCallsOnSketchesOfSoundTexts(t *testing.T) {
	r := rand.New(rand.NewSource(6))
	for range 3000 {
		p := someParts(r)
		d := deskOf(t, 2, someCoins(r, 40), 64)
		if _, e := d.Decode(p.text()); e != api.OK {
			continue
		}
		told(d, 1)
		for range 10 {
			d.Add(1, r.Intn(9)-4, 1+r.Intn(9))
			d.Merge(1, 1)
			d.Merge(0, 1)
		}
		for s := range 2 {
			other := deskOf(t, 1, "")
			decode(t, other, encode(t, d, s), 0)
		}
	}
}
