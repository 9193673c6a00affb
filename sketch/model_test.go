package sketch_test

import (
	"fmt"
	"math/rand"
	"slices"
	"strings"
	"testing"

	"sketch/api"
	"sketch/sketch"
)

// model is a sketch as the document tells it, with no care for speed.
type model struct {
	k     int
	items [][]int
	times []int
	came  []int // each number once, whatever its weight
}

func (m *model) copied() *model {
	c := &model{k: m.k, times: slices.Clone(m.times), came: slices.Clone(m.came)}
	for _, items := range m.items {
		c.items = append(c.items, slices.Clone(items))
	}
	return c
}

func (m *model) capacity(h int) int {
	twos, threes := 1, 1
	for range len(m.items) - 1 - h {
		twos, threes = twos*2, threes*3
	}
	return max(api.MinHold, (m.k*twos+threes-1)/threes)
}

// tooFull is the level that must be thinned, or -1.
func (m *model) tooFull() int {
	over, first := 0, -1
	for h := range m.items {
		over += len(m.items[h]) - m.capacity(h)
		if first < 0 && len(m.items[h]) > m.capacity(h) {
			first = h
		}
	}
	if over <= 0 {
		return -1
	}
	return first
}

func (m *model) grow(levels int) {
	for len(m.items) < levels {
		m.items = append(m.items, nil)
		m.times = append(m.times, 0)
	}
}

// add lets a number come in and answers how many coins were used, or -1 if there are too few.
func (m *model) add(x, w int, coins string) int {
	m.came = append(m.came, x)
	for h := 0; w>>h > 0; h++ {
		m.grow(h + 1)
		if w>>h&1 == 1 {
			m.items[h] = append(m.items[h], x)
		}
	}
	used := 0
	for h := m.tooFull(); h >= 0; h = m.tooFull() {
		if used == len(coins) {
			return -1
		}
		m.grow(h + 2)
		old := m.items[h]
		slices.Sort(old)
		m.items[h] = nil
		if len(old)%2 == 1 {
			m.items[h] = []int{old[0]}
			old = old[1:]
		}
		for pair := range slices.Chunk(old, 2) {
			m.items[h+1] = append(m.items[h+1], pair[coins[used]-'0'])
		}
		m.times[h]++
		used++
	}
	return used
}

func (m *model) count() int {
	count := 0
	for h, items := range m.items {
		count += len(items) << h
	}
	return count
}

// seenModel writes all that a desk with these sketches must tell of itself, as seen does.
func seenModel(sketches []*model, left int) string {
	text := fmt.Sprintf("left %d", left)
	for _, m := range sketches {
		size := api.Size{K: m.k, Count: m.count(), Levels: len(m.items)}
		ledger := api.Ledger{Times: m.times}
		levels := ""
		for h, items := range m.items {
			size.Items += len(items)
			ledger.Error += m.times[h] << h
			ledger.Spread += m.times[h] << (2 * h)
			slices.Sort(items)
			levels += fmt.Sprint(" ", items)
		}
		least, greatest := 0, 0
		if len(m.came) > 0 {
			least, greatest = slices.Min(m.came), slices.Max(m.came)
		}
		text += fmt.Sprintf("; %+v, %d to %d, %+v", size, least, greatest, ledger) + levels
	}
	return text
}

// someWeight is mostly small, at times great, at times just too great.
func someWeight(r *rand.Rand, count int) int {
	switch r.Intn(12) {
	case 0:
		return r.Intn(4) - 2
	case 1:
		return 1 << r.Intn(27)
	case 2:
		return r.Intn(api.MaxCount)
	case 3:
		return api.MaxCount - count + r.Intn(2)
	case 4, 5, 6:
		return 1 + r.Intn(20)
	}
	return 1
}

func someNumber(r *rand.Rand) int {
	switch r.Intn(8) {
	case 0:
		return oddNumbers[r.Intn(len(oddNumbers))]
	case 1:
		return int(r.Uint64())
	}
	return r.Intn(40) - 20
}

func someCoins(r *rand.Rand, n int) string {
	text := strings.Builder{}
	for range n {
		text.WriteByte('0' + byte(r.Intn(2)))
	}
	return text.String()
}

// wantAdd is what the model says of an Add, and the model and coins behind it.
func wantAdd(m *model, x, w int, coins string) (*model, string, api.Errno) {
	if w < 1 {
		return m, coins, api.ErrArg
	}
	if w > api.MaxCount-m.count() {
		return m, coins, api.ErrFull
	}
	next := m.copied()
	used := next.add(x, w, coins)
	if used < 0 {
		return m, coins, api.ErrTape
	}
	return next, coins[used:], api.OK
}

func TestAgainstTheModel(t *testing.T) {
	refused := [11]int{}
	for seed := range 60 {
		r := rand.New(rand.NewSource(int64(seed)))
		ks := []int{2, 2 + r.Intn(6), 2 + r.Intn(63)}
		d := deskOf(t, 3, "", ks...)
		coins := ""
		sketches := []*model{}
		for _, k := range ks {
			sketches = append(sketches, &model{k: k, items: make([][]int, 1), times: make([]int, 1)})
		}
		onlyOnes := seed%2 == 0
		for range 500 {
			if more := someCoins(r, r.Intn(12)); r.Intn(8) == 0 && len(coins)+len(more) <= api.MaxTape {
				feed(t, d, more)
				coins += more
			}
			s := r.Intn(3)
			x, w := someNumber(r), 1
			if !onlyOnes {
				w = someWeight(r, sketches[s].count())
			}
			next, rest, want := wantAdd(sketches[s], x, w, coins)
			sketches[s], coins = next, rest
			refused[want]++
			if e := d.Add(s, x, w); e != want {
				t.Fatalf("P6: seed %d: Add(%d, %d, %d) = %d, want %d", seed, s, x, w, e, want)
			}
			if got, want := seen(d), seenModel(sketches, len(coins)); got != want {
				t.Fatalf("P6 to P8: seed %d: behind Add(%d, %d, %d):\n%s\nwant\n%s", seed, s, x, w, got, want)
			}
		}
	}
	for _, e := range []api.Errno{api.OK, api.ErrArg, api.ErrFull, api.ErrTape} {
		if refused[e] < 100 {
			t.Errorf("too few calls are answered %d: %v", e, refused)
		}
	}
}

func TestShapeHangsOnWeightsAlone(t *testing.T) {
	r := rand.New(rand.NewSource(9))
	a := deskOf(t, 1, strings.Repeat("0", 1024), 5)
	b := deskOf(t, 1, someCoins(r, 1024), 5)
	for range 1000 {
		w := 1 + r.Intn(9)
		add(t, a, 0, w, 7)
		add(t, b, 0, w, someNumber(r))
		one, _ := a.Size(0)
		two, _ := b.Size(0)
		if one != two || a.Left() != b.Left() {
			t.Fatalf("P17: %+v, left %d, and %+v, left %d", one, a.Left(), two, b.Left())
		}
		if a.Left() < 100 {
			feed(t, a, strings.Repeat("1", 900))
			feed(t, b, someCoins(r, 900))
		}
	}
}

func TestCallsOnOtherDesksMeanNothing(t *testing.T) {
	alone := deskOf(t, 2, "0101101", 2, 3)
	add(t, alone, 0, 1, 8, 6, 4, 2, 9, 7)
	add(t, alone, 1, 3, 1, 2, 3, 4)
	beside := deskOf(t, 2, "0101101", 2, 3)
	other := deskOf(t, 8, "111111", 2)
	for _, x := range []int{8, 6, 4, 2, 9, 7} {
		add(t, beside, 0, 1, x)
		add(t, other, 0, 1, -x)
	}
	other.Open(4)
	add(t, beside, 1, 3, 1, 2, 3, 4)
	if one, two := seen(alone), seen(beside); one != two {
		t.Errorf("P2: the same calls, beside those on another desk:\n%s\n%s", one, two)
	}
}

func TestOtherSketchesStay(t *testing.T) {
	d := deskOf(t, 3, strings.Repeat("01", 20), 2, 2, 2)
	add(t, d, 0, 1, 1, 2, 3)
	add(t, d, 2, 1, 4, 5, 6)
	add(t, d, 1, 5, 50, -50, 7, 8)
	wantLevels(t, d, 0, []int{1}, []int{2})
	wantLevels(t, d, 2, []int{4}, []int{6})
}

func TestListsThatComeOutAreFresh(t *testing.T) {
	d := deskOf(t, 1, "0", 4)
	add(t, d, 0, 1, 6, 4, 5)
	add(t, d, 0, 2, 1)
	before := seen(d)
	for range 2 {
		for h := range 2 {
			items, _ := d.Level(0, h)
			spoil(items)
		}
		ledger, _ := d.Ledger(0)
		spoil(ledger.Times)
		if after := seen(d); after != before {
			t.Fatalf("P2: lists that came out were written into:\n%s\nis now\n%s", before, after)
		}
	}
	kept, _ := d.Level(0, 0)
	ledger, _ := d.Ledger(0)
	add(t, d, 0, 1, 3, 2, 1, 0)
	if !slices.Equal(kept, []int{4, 5, 6}) || !slices.Equal(ledger.Times, []int{0, 0}) {
		t.Errorf("P2: lists that came out have changed: %v, %v", kept, ledger.Times)
	}
}

// spoil writes into a list and into its spare room.
func spoil(list []int) {
	list = list[:cap(list)]
	for i := range list {
		list[i] = 99
	}
}

func TestNoCallPanics(t *testing.T) {
	texts := []string{"", "0", "x", "SK", "SK\x02\x01\x00\x00\x00\x00\x00\xa1\x57", strings.Repeat("1", 5000), strings.Repeat("\xff", 5000)}
	for _, a := range oddNumbers {
		sketch.New(a)
		for _, b := range oddNumbers {
			d := deskOf(t, 3, "0101", 2, 64)
			add(t, d, 0, 3, 1, 2, 3)
			for _, text := range texts {
				d.Feed(text)
				d.Decode(text)
				d.Take(a, b, b, text)
			}
			for _, c := range oddNumbers {
				d.Add(a, b, c)
			}
			d.Open(a)
			d.Size(a)
			d.Ends(a)
			d.Level(a, b)
			d.Ledger(a)
			d.Merge(a, b)
			d.Rank(a, b)
			d.Quantile(a, b)
			d.Split(a, []int{b, b})
			d.Split(a, nil)
			d.Encode(a)
			d.Seal(a)
			d.Left()
		}
	}
}
