package sketch_test

import (
	"fmt"
	"math/rand"
	"slices"
	"strings"
	"testing"

	"sketch/api"
	"sketch/sketch"
)

// someWeight is mostly small, at times great, at times just too great.
func someWeight(r *rand.Rand, count int) int {
	switch r.Intn(12) {
	case 0:
		return r.Intn(4) - 2
	case 1:
		return 1 << r.Intn(27)
	case 2:
		return r.Intn(api.MaxCount)
	case 3:
		return api.MaxCount - count + r.Intn(2)
	case 4, 5, 6:
		return 1 + r.Intn(20)
	}
	return 1
}

func someNumber(r *rand.Rand) int {
	switch r.Intn(8) {
	case 0:
		return oddNumbers[r.Intn(len(oddNumbers))]
	case 1:
		return int(r.Uint64())
	}
	return r.Intn(40) - 20
}

func someCoins(r *rand.Rand, n int) string {
	text := strings.Builder{}
	for range n {
		text.WriteByte('0' + byte(r.Intn(2)))
	}
	return text.String()
}

// report is a text and what the model says of it: nil, if it is no sketch's.
type report struct {
	text string
	m    *model
}

// both is a desk and what the model says of it.
type both struct {
	d        *sketch.Desk
	room     int
	sketches []*model
	coins    string
	reports  []report
	answers  [11]int // how many calls were answered so
}

func bothOf(t *testing.T, room int, ks ...int) *both {
	b := &both{d: deskOf(t, room, "", ks...), room: room, reports: []report{{textOfNone, modelOf(2)}}}
	for _, k := range ks {
		b.sketches = append(b.sketches, modelOf(k))
	}
	return b
}

func (b *both) feed(t *testing.T, coins string) {
	if len(b.coins)+len(coins) <= api.MaxTape {
		feed(t, b.d, coins)
		b.coins += coins
	}
}

func (b *both) add(t *testing.T, s, x, w int) {
	next, rest, want := wantAdd(b.sketches[s], x, w, b.coins)
	if used := len(b.coins) - len(rest); w == 1 && used > 1 {
		t.Fatalf("P17: Add(%d, %d, 1) would use %d coins", s, x, used)
	}
	b.sketches[s], b.coins = next, rest
	got := b.d.Add(s, x, w)
	b.compare(t, fmt.Sprintf("P6: Add(%d, %d, %d)", s, x, w), got, want)
}

func (b *both) merge(t *testing.T, s, o int) {
	next, rest, want := wantMerge(b.sketches[s], b.sketches[o], b.coins)
	b.sketches[s], b.coins = next, rest
	got := b.d.Merge(s, o)
	b.compare(t, fmt.Sprintf("P9: Merge(%d, %d)", s, o), got, want)
}

// copy begins a sketch out of the text of another.
func (b *both) copy(t *testing.T, s int) {
	begun, want := 0, api.ErrRoom
	if len(b.sketches) < b.room {
		begun, want = len(b.sketches), api.OK
		b.sketches = append(b.sketches, b.sketches[s].ofText())
	}
	text := encode(t, b.d, s)
	n, got := b.d.Decode(text)
	if n != begun {
		t.Fatalf("P14: Decode(%q) = %d, %d, want %d, %d", text, n, got, begun, want)
	}
	b.compare(t, fmt.Sprintf("P14: Decode(%q)", text), got, want)
}

func (b *both) seal(t *testing.T, s int) {
	want := api.OK
	if b.sketches[s].sealed {
		want = api.ErrSealed
	}
	b.sketches[s].sealed = true
	got := b.d.Seal(s)
	b.compare(t, fmt.Sprintf("P15: Seal(%d)", s), got, want)
}

// note keeps the text of a sketch as a report.
func (b *both) note(t *testing.T, s int) {
	b.reports = append(b.reports, report{encode(t, b.d, s), b.sketches[s].ofText()})
}

func (b *both) take(t *testing.T, s int, n name, o report) {
	next, rest, want := wantTake(b.sketches[s], n, o.m, b.coins)
	b.sketches[s], b.coins = next, rest
	got := b.d.Take(s, n.sender, n.seq, o.text)
	b.compare(t, fmt.Sprintf("P16: Take(%d, %d, %d, %q)", s, n.sender, n.seq, o.text), got, want)
}

// someReport is one that was kept, at times with its last byte changed.
func (b *both) someReport(r *rand.Rand) report {
	o := b.reports[r.Intn(len(b.reports))]
	if r.Intn(6) > 0 {
		return o
	}
	last := len(o.text) - 1
	return report{o.text[:last] + string([]byte{o.text[last] + 1}), nil}
}

// someName is mostly one that seen looks for, at times one that may not be.
func someName(r *rand.Rand) name {
	switch r.Intn(10) {
	case 0:
		return name{oddNumbers[r.Intn(len(oddNumbers))], oddNumbers[r.Intn(len(oddNumbers))]}
	case 1, 2:
		return name{r.Intn(256), r.Intn(1000)}
	}
	names := someNames()
	return names[r.Intn(len(names))]
}

func (b *both) compare(t *testing.T, call string, got, want api.Errno) {
	t.Helper()
	b.answers[want]++
	if got != want {
		t.Fatalf("%s = %d, want %d", call, got, want)
	}
	if got, want := seen(b.d), seenModel(b.sketches, len(b.coins)); got != want {
		t.Fatalf("behind %s:\n%s\nwant\n%s", call, got, want)
	}
}

// tryCalls makes some calls on a desk and on its model; one call out of so many is a Merge, as many are a Take, half as many are a Decode.
func tryCalls(t *testing.T, seed int64, calls, merges int, onlyOnes bool) *both {
	r := rand.New(rand.NewSource(seed))
	b := bothOf(t, 5, 2, 2+r.Intn(6), 2+r.Intn(63))
	for range calls {
		if r.Intn(8) == 0 {
			b.feed(t, someCoins(r, r.Intn(12)))
		}
		b.someCall(t, r, merges, onlyOnes)
	}
	return b
}

func (b *both) someCall(t *testing.T, r *rand.Rand, merges int, onlyOnes bool) {
	s, o := r.Intn(len(b.sketches)), r.Intn(len(b.sketches))
	switch {
	case r.Intn(200) == 0:
		b.seal(t, s)
	case r.Intn(merges) == 0:
		b.merge(t, s, o)
	case r.Intn(merges) == 0:
		b.note(t, o)
		b.take(t, s, someName(r), b.someReport(r))
	case r.Intn(2*merges) == 0:
		b.copy(t, s)
	case onlyOnes:
		b.add(t, s, someNumber(r), 1)
	default:
		b.add(t, s, someNumber(r), someWeight(r, b.sketches[s].count()))
	}
}

func TestAgainstTheModel(t *testing.T) {
	answers := [11]int{}
	for seed := range 48 {
		b := tryCalls(t, int64(seed), 300, []int{1000, 30, 8, 3}[seed/2%4], seed%2 == 0)
		for e, n := range b.answers {
			answers[e] += n
		}
		for s, m := range b.sketches {
			compareTold(t, b.d, s, m)
		}
	}
	for _, e := range []api.Errno{api.OK, api.ErrArg, api.ErrRoom, api.ErrSealed, api.ErrFull, api.ErrTape, api.ErrText, api.ErrTwice} {
		if answers[e] < 100 {
			t.Errorf("too few calls are answered %d: %v", e, answers)
		}
	}
}

// compareTold compares Rank, Quantile and Split with what the model says, at the numbers near all items and at the edges.
func compareTold(t *testing.T, d *sketch.Desk, s int, m *model) {
	count := m.count()
	if count == 0 {
		return
	}
	for _, q := range m.nearItems() {
		if got, e := d.Rank(s, q); e != api.OK || got != m.rank(q) {
			t.Fatalf("P10: Rank(%d, %d) = %+v, %d, want %+v", s, q, got, e, m.rank(q))
		}
	}
	for _, r := range m.nearRanks() {
		if got, e := d.Quantile(s, r); e != api.OK || got != m.quantile(r) {
			t.Fatalf("P11: Quantile(%d, %d) = %d, %d, want %d", s, r, got, e, m.quantile(r))
		}
	}
	for cuts := range slices.Chunk(m.nearItems(), 13) {
		if got, e := d.Split(s, cuts); e != api.OK || !slices.Equal(got, m.split(cuts)) {
			t.Fatalf("P12: Split(%d, %v) = %v, %d, want %v", s, cuts, got, e, m.split(cuts))
		}
	}
}
