package sketch_test

import (
	"math/rand"
	"slices"
	"strings"
	"testing"

	"sketch/api"
	"sketch/sketch"
)

func take(t *testing.T, d *sketch.Desk, s, sender, seq int, text string) {
	t.Helper()
	if e := d.Take(s, sender, seq, text); e != api.OK {
		t.Fatalf("P16: Take(%d, %d, %d, %q) = %d", s, sender, seq, text, e)
	}
}

// wantNotTaken tells that a Take answers this error and changes nothing.
func wantNotTaken(t *testing.T, d *sketch.Desk, s, sender, seq int, text string, want api.Errno) {
	t.Helper()
	before := seen(d)
	if e := d.Take(s, sender, seq, text); e != want {
		t.Errorf("P16: Take(%d, %d, %d, %q) = %d, want %d", s, sender, seq, text, e, want)
	}
	if after := seen(d); after != before {
		t.Errorf("P1: Take(%d, %d, %d, %q) was refused, yet:\n%s\nis now\n%s", s, sender, seq, text, before, after)
	}
}

// textOf is the text of a sketch with this K into which these numbers came; there is no coin.
func textOf(t *testing.T, k, w int, xs ...int) string {
	t.Helper()
	d := deskOf(t, 1, "", k)
	add(t, d, 0, w, xs...)
	return encode(t, d, 0)
}

func TestTakeExample(t *testing.T) {
	d := deskOf(t, 1, "", 9)
	take(t, d, 0, 3, 0, textOf(t, 9, 1, 5, 6))
	for _, text := range []string{textOf(t, 9, 1, 5, 6), textOfFive, textOfNone, textOf(t, 9, api.MaxCount, 1), "", "x", strings.Repeat("1", 5000)} {
		wantNotTaken(t, d, 0, 3, 0, text, api.ErrTwice)
	}
	take(t, d, 0, 3, 1, textOf(t, 9, 1, 7))
	take(t, d, 0, 4, 0, textOf(t, 9, 1, 4))
	wantLevels(t, d, 0, []int{4, 5, 6, 7})
	wantNotTaken(t, d, 0, 3, 1, textOfFive, api.ErrTwice)
	wantNotTaken(t, d, 0, 4, 0, textOfFive, api.ErrTwice)
}

// Each call has all the later errors against it too, as far as they can be there together.
func TestTakeErrorsInTheirOrder(t *testing.T) {
	d := deskOf(t, 5, "", 2, 2, 2, 2)
	full := textOf(t, 2, api.MaxCount, 1)
	two := textOf(t, 2, 1, 8, 9)
	// Sketch 0 is sealed; 1 has taken all it may; 2 has taken one; none has a coin to settle with.
	for s := range 4 {
		add(t, d, s, 1, 5, 3)
	}
	for i := range api.MaxTaken {
		take(t, d, 0, 7, i, textOfNone)
		take(t, d, 1, 7, i, textOfNone)
	}
	take(t, d, 2, 7, 0, textOfNone)
	seal(t, d, 0)
	for _, text := range []string{"", full, two, textOfNone} {
		for _, s := range []int{lowest, -1, 4, 5, 8, highest} {
			wantNotTaken(t, d, s, -1, -1, text, api.ErrSketch)
			wantNotTaken(t, d, s, 7, 0, text, api.ErrSketch)
		}
		wantNotTaken(t, d, 0, -1, -1, text, api.ErrSealed)
		wantNotTaken(t, d, 0, 7, 0, text, api.ErrSealed)
		wantNotTaken(t, d, 0, 7, 64, text, api.ErrSealed)
		for _, n := range []name{{-1, 0}, {256, 0}, {7, -1}, {lowest, 0}, {highest, 0}, {7, lowest}, {-1, -1}, {7 - 256, 0}, {7 + 256, 0}, {7 + 1<<32, 0}} {
			wantNotTaken(t, d, 1, n.sender, n.seq, text, api.ErrArg)
			wantNotTaken(t, d, 2, n.sender, n.seq, text, api.ErrArg)
			wantNotTaken(t, d, 3, n.sender, n.seq, text, api.ErrArg)
		}
		wantNotTaken(t, d, 1, 7, 0, text, api.ErrTwice)
		wantNotTaken(t, d, 1, 7, 63, text, api.ErrTwice)
		wantNotTaken(t, d, 2, 7, 0, text, api.ErrTwice)
	}
	for s := 1; s < 4; s++ {
		wantNotTaken(t, d, s, 7, 64, "", api.ErrText)
		wantNotTaken(t, d, s, 7, 64, full+"x", api.ErrText)
		wantNotTaken(t, d, s, 7, 64, two[1:], api.ErrText)
	}
	for _, text := range []string{full, two, textOfNone} {
		wantNotTaken(t, d, 1, 7, 64, text, api.ErrRoom)
	}
	wantNotTaken(t, d, 2, 7, 64, full, api.ErrFull)
	wantNotTaken(t, d, 3, 7, 0, full, api.ErrFull)
	wantNotTaken(t, d, 2, 7, 64, two, api.ErrTape)
	wantNotTaken(t, d, 3, 7, 0, two, api.ErrTape)
}

func TestFullReportComesAheadOfTape(t *testing.T) {
	d := deskOf(t, 1, "", 2)
	add(t, d, 0, 1, 1)
	add(t, d, 0, api.MaxCount-1, 1)
	text := encode(t, d, 0)
	// Twice the 29 items are above the capacity 56.
	wantSize(t, d, 0, api.Size{K: 2, Count: api.MaxCount, Items: 29, Levels: 28})
	wantNotTaken(t, d, 0, 1, 1, text, api.ErrFull)
}

func TestTakeUpToMaxCount(t *testing.T) {
	d := deskOf(t, 2, "", 2, 2)
	half := textOf(t, 2, api.MaxCount/2, 5)
	take(t, d, 0, 1, 1, half)
	wantNotTaken(t, d, 0, 1, 2, textOf(t, 2, api.MaxCount/2+1, 5), api.ErrFull)
	take(t, d, 0, 1, 2, half)
	wantSize(t, d, 0, api.Size{K: 2, Count: api.MaxCount, Items: 2, Levels: 28})
	wantNotTaken(t, d, 0, 1, 3, textOfFive, api.ErrFull)
	take(t, d, 0, 1, 3, textOfNone)
	take(t, d, 1, 1, 3, textOf(t, 2, api.MaxCount, 5))
	wantNotTaken(t, d, 1, 1, 4, textOfFive, api.ErrFull)
}

func TestReportComesInAsByMerge(t *testing.T) {
	for s := range 7 {
		for o := range 7 {
			one, two := someDesk(t), someDesk(t)
			want := one.Merge(s, o)
			if got := two.Take(s, 9, 9, encode(t, two, o)); got != want {
				t.Errorf("P16: Take(%d) of the text of %d = %d, but Merge = %d", s, o, got, want)
			}
			if a, b := seen(one), seen(two); a != b {
				t.Errorf("P16: behind Take(%d) of the text of %d:\n%s\nbehind Merge:\n%s", s, o, b, a)
			}
			again := api.ErrTwice
			if want != api.OK {
				again = want
			}
			wantNotTaken(t, two, s, 9, 9, encode(t, two, o), again)
		}
	}
}

func TestReportWithTheLesserK(t *testing.T) {
	d := deskOf(t, 1, "", 5)
	add(t, d, 0, 1, 5, 1, 4, 2, 3)
	take(t, d, 0, 0, 0, textOf(t, 7, 1))
	wantSize(t, d, 0, api.Size{K: 5, Count: 5, Items: 5, Levels: 1})
	// The lesser K makes the five items too many.
	wantNotTaken(t, d, 0, 0, 1, textOfNone, api.ErrTape)
	feed(t, d, "01")
	take(t, d, 0, 0, 1, textOfNone)
	wantSize(t, d, 0, api.Size{K: 2, Count: 5, Items: 3, Levels: 2})
	wantLevels(t, d, 0, []int{1}, []int{2, 4})
	wantLedger(t, d, 0, 1, 1, 1, 0)
	wantEnds(t, d, 0, 1, 5)
	wantLeft(t, d, 1)
}

func TestReportHasItsLedgerAndEnds(t *testing.T) {
	from := deskOf(t, 1, "00", 2)
	add(t, from, 0, 1, 5, 3, 9, 1, 7, 2)
	d := deskOf(t, 1, "", 8)
	add(t, d, 0, 1, 6)
	take(t, d, 0, 255, highest, encode(t, from, 0))
	wantLevels(t, d, 0, []int{6}, []int{1, 3, 5})
	wantLedger(t, d, 0, 2, 2, 2, 0)
	wantEnds(t, d, 0, 1, 9)
	wantSize(t, d, 0, api.Size{K: 2, Count: 7, Items: 4, Levels: 2})
}

func TestReportIntoOneWithoutItems(t *testing.T) {
	d := deskOf(t, 1, "", 64)
	text := textOf(t, 9, 1, -5, -9, lowest)
	take(t, d, 0, 0, 0, text)
	wantText(t, d, 0, text)
	take(t, d, 0, 0, 1, textOf(t, 64, 1))
	wantText(t, d, 0, text)
	wantEnds(t, d, 0, lowest, -5)
}

func TestReportsAreToldApartBySenderAndSeq(t *testing.T) {
	names := []name{{0, 0}, {0, 1}, {1, 0}, {1, 1}, {0, 255}, {0, 256}, {255, 0}, {255, 1}, {255, 255}, {128, 0}, {0, 128}, {1, 1 << 8}, {0, 1 << 31}, {0, 1 << 32}, {1, 1 << 32}, {0, 1<<32 + 1}, {0, 1 << 62}, {255, 1 << 56}, {255, highest - 1}, {0, highest}, {255, highest}}
	d := deskOf(t, 1, "", 64)
	for i, n := range names {
		for _, later := range names[i:] {
			wantNotTaken(t, d, 0, later.sender, later.seq, "", api.ErrText)
		}
		take(t, d, 0, n.sender, n.seq, textOf(t, 64, 1, i))
		for _, taken := range names[:i+1] {
			wantNotTaken(t, d, 0, taken.sender, taken.seq, textOfFive, api.ErrTwice)
		}
	}
	wantSize(t, d, 0, api.Size{K: 64, Count: len(names), Items: len(names), Levels: 1})
}

func TestEachReportCountsOnceWhateverTheOrder(t *testing.T) {
	r := rand.New(rand.NewSource(3))
	names := []name{}
	for sender := range 4 {
		for seq := range 5 {
			names = append(names, name{sender * 85, seq * seq * seq})
		}
	}
	first := ""
	for range 30 {
		d := deskOf(t, 1, "", 64)
		calls := slices.Repeat(names, 3)
		r.Shuffle(len(calls), func(i, j int) { calls[i], calls[j] = calls[j], calls[i] })
		taken := 0
		for _, n := range calls {
			text := textOf(t, 64, 1, n.sender-n.seq, n.seq)
			if e := d.Take(0, n.sender, n.seq, text); e == api.OK {
				taken++
			} else if e != api.ErrTwice {
				t.Fatalf("P16: Take(0, %d, %d) = %d", n.sender, n.seq, e)
			}
			wantSize(t, d, 0, api.Size{K: 64, Count: 2 * taken, Items: 2 * taken, Levels: 1})
		}
		if taken != len(names) {
			t.Fatalf("P16: of %d reports %d were taken", len(names), taken)
		}
		if first == "" {
			first = encode(t, d, 0)
		}
		wantText(t, d, 0, first)
	}
}

func TestRefusedReportMayComeOnceMore(t *testing.T) {
	d := deskOf(t, 1, "", 2)
	add(t, d, 0, 1, 5, 3)
	text := textOf(t, 2, 1, 9)
	for range 2 * api.MaxTaken {
		wantNotTaken(t, d, 0, 1, 0, text, api.ErrTape)
		wantNotTaken(t, d, 0, 1, 0, textOf(t, 2, api.MaxCount, 9), api.ErrFull)
		wantNotTaken(t, d, 0, 1, 0, text[1:], api.ErrText)
	}
	feed(t, d, "0")
	take(t, d, 0, 1, 0, text)
	wantLevels(t, d, 0, []int{3}, []int{5})
	wantLeft(t, d, 0)
	wantNotTaken(t, d, 0, 1, 0, text, api.ErrTwice)
	// Those that were refused were not counted as taken either.
	for i := 1; i < api.MaxTaken; i++ {
		take(t, d, 0, 1, i, textOfNone)
	}
	wantNotTaken(t, d, 0, 1, api.MaxTaken, textOfNone, api.ErrRoom)
}

func TestReportThatNeedsTwoCoins(t *testing.T) {
	d := deskOf(t, 1, "1", 2)
	add(t, d, 0, 2, 10, 20)
	add(t, d, 0, 1, 30, 40)
	text := textOf(t, 2, 3, 50)
	wantNotTaken(t, d, 0, 0, 0, text, api.ErrTape)
	feed(t, d, "00")
	take(t, d, 0, 0, 0, text)
	wantLevels(t, d, 0, []int{30}, nil, []int{10, 50})
	wantLedger(t, d, 0, 3, 5, 1, 1, 0)
	wantLeft(t, d, 1)
}

func TestMaxTakenReportsAreTheMost(t *testing.T) {
	for _, senders := range []int{1, 3, 256} {
		d := deskOf(t, 3, "", 64, 64, 64)
		for i := range api.MaxTaken {
			take(t, d, 0, i%senders, i, textOf(t, 64, 1, i))
		}
		for _, n := range []name{{0, 64}, {200, 0}, {255, highest}, {0, 1000}} {
			wantNotTaken(t, d, 0, n.sender, n.seq, textOfNone, api.ErrRoom)
			wantNotTaken(t, d, 0, n.sender, n.seq, "", api.ErrText)
		}
		for i := range api.MaxTaken {
			wantNotTaken(t, d, 0, i%senders, i, textOfNone, api.ErrTwice)
		}
		wantSize(t, d, 0, api.Size{K: 64, Count: 64, Items: 64, Levels: 1})
		// Only reports are too many: all else comes in, and other sketches take their own.
		feed(t, d, "01")
		take(t, d, 1, 0, 64, textOf(t, 64, 1, 3))
		merge(t, d, 0, 1)
		add(t, d, 0, 1, 7)
		merge(t, d, 2, 0)
		for i := range api.MaxTaken {
			take(t, d, 2, i%senders, i, textOf(t, 64, 1))
		}
	}
}

func TestMergeDoesNotHandOnWhatWasTaken(t *testing.T) {
	d := deskOf(t, 4, "", 64, 64, 64, 64)
	take(t, d, 0, 0, 0, textOf(t, 64, 1, 1))
	take(t, d, 1, 1, 1, textOf(t, 64, 1, 2))
	merge(t, d, 0, 1)
	wantNotTaken(t, d, 0, 0, 0, textOfFive, api.ErrTwice)
	wantNotTaken(t, d, 1, 1, 1, textOfFive, api.ErrTwice)
	take(t, d, 1, 0, 0, textOf(t, 64, 1, 3))
	take(t, d, 0, 1, 1, textOf(t, 64, 1, 4))
	wantLevels(t, d, 0, []int{1, 2, 4})
	wantLevels(t, d, 1, []int{2, 3})
	merge(t, d, 2, 0)
	merge(t, d, 2, 1)
	take(t, d, 2, 0, 0, textOf(t, 64, 1, 5))
	take(t, d, 2, 1, 1, textOf(t, 64, 1, 6))
	wantLevels(t, d, 2, []int{1, 2, 2, 3, 4, 5, 6})
	// One that merges into itself, and one into which numbers come, goes on knowing what it took, and took it once.
	merge(t, d, 0, 0)
	add(t, d, 0, 1, 9)
	wantNotTaken(t, d, 0, 0, 0, textOfFive, api.ErrTwice)
	wantNotTaken(t, d, 0, 1, 1, textOfFive, api.ErrTwice)
	for i := 2; i < api.MaxTaken; i++ {
		take(t, d, 0, 2, i, textOf(t, 64, 1))
	}
	wantNotTaken(t, d, 0, 2, 64, textOfNone, api.ErrRoom)
}

func TestTextDoesNotTellWhatWasTaken(t *testing.T) {
	d := deskOf(t, 4, "", 64, 64)
	text := textOf(t, 64, 1, 5)
	take(t, d, 0, 0, 0, text)
	wantText(t, d, 0, text)
	decode(t, d, encode(t, d, 0), 2)
	take(t, d, 2, 0, 0, text)
	wantLevels(t, d, 2, []int{5, 5})
	// A report hands on neither what its sketch took nor that it is sealed.
	seal(t, d, 0)
	take(t, d, 1, 1, 1, encode(t, d, 0))
	take(t, d, 1, 0, 0, text)
	add(t, d, 1, 1, 7)
	wantLevels(t, d, 1, []int{5, 5, 7})
	decode(t, d, encode(t, d, 1), 3)
	for i := range api.MaxTaken {
		take(t, d, 3, 0, i, textOf(t, 64, 1))
	}
}

func TestTakeBeginsNoSketch(t *testing.T) {
	d := deskOf(t, 2, "", 4)
	take(t, d, 0, 0, 0, textOfFive)
	if s, e := d.Open(3); s != 1 || e != api.OK {
		t.Errorf("P5: Open behind Take = %d, %d, want 1, OK", s, e)
	}
	// Though the desk has room for no more sketches, there is room for reports.
	take(t, d, 0, 0, 1, textOfNone)
	take(t, d, 1, 0, 0, textOfFive)
}

func TestTakeChangesItsSketchAlone(t *testing.T) {
	d := deskOf(t, 3, "0110", 2, 2, 2)
	add(t, d, 0, 1, 5, 3)
	add(t, d, 2, 1, 1, 2)
	one, two := seenSketch(d, 0), seenSketch(d, 2)
	take(t, d, 1, 0, 0, encode(t, d, 0))
	take(t, d, 1, 0, 1, encode(t, d, 2))
	add(t, d, 1, 1, 7, 8, 9)
	if seenSketch(d, 0) != one || seenSketch(d, 2) != two {
		t.Errorf("P2: Take(1) changed sketch 0 or 2:\n%s", seen(d))
	}
	own := seenSketch(d, 1)
	add(t, d, 0, 1, 4)
	if seenSketch(d, 1) != own {
		t.Errorf("P2: Add(0) changed sketch 1:\n%s", seen(d))
	}
}

func TestReportsOnOtherDesksMeanNothing(t *testing.T) {
	one, two := deskOf(t, 1, "", 8), deskOf(t, 1, "", 8)
	take(t, one, 0, 3, 3, textOfFive)
	seal(t, one, 0)
	take(t, two, 0, 3, 3, textOfFive)
	wantNotTaken(t, two, 0, 3, 3, textOfFive, api.ErrTwice)
}

func TestTakeRefusesJustTheTextsThatDecodeRefuses(t *testing.T) {
	r := rand.New(rand.NewSource(8))
	good := 0
	for range 10000 {
		text := someParts(r).text()
		if r.Intn(8) == 0 {
			text = text[:r.Intn(len(text))]
		}
		d := deskOf(t, 2, "", 64)
		_, want := d.Decode(text)
		if got := d.Take(0, 1, 1, text); got != want {
			t.Fatalf("P16: Take of %q = %d, Decode = %d", text, got, want)
		}
		if want != api.OK {
			continue
		}
		good++
		// Into a sketch with the greatest K and no items it comes just as it is.
		wantText(t, d, 0, text)
	}
	if good < 1000 {
		t.Errorf("only %d texts are a sketch's", good)
	}
}

func TestTakeRefusesTextsWithAChangedByte(t *testing.T) {
	for _, text := range goodTexts(t) {
		d := deskOf(t, 1, strings.Repeat("01", 100), 64)
		for i := range len(text) {
			changed := []byte(text)
			changed[i]++
			if e := d.Take(0, 0, 0, string(changed)); e != api.ErrText {
				t.Fatalf("P16: Take of %q where byte %d was changed = %d, want ErrText", changed, i, e)
			}
		}
		take(t, d, 0, 0, 0, text)
		wantText(t, d, 0, text)
	}
}
