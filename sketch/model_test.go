package sketch_test

import (
	"cmp"
	"fmt"
	"slices"

	"sketch/api"
)

// model is a sketch as the document tells it, with no care for speed.
type model struct {
	k      int
	items  [][]int
	times  []int
	came   []coming
	sealed bool
	took   []name
}

// name is what tells a report from others.
type name struct {
	sender, seq int
}

// coming is a number that came in, with its weight.
type coming struct {
	x, w int
}

func modelOf(k int) *model {
	return &model{k: k, items: make([][]int, 1), times: make([]int, 1)}
}

func (m *model) copied() *model {
	c := m.ofText()
	c.sealed, c.took = m.sealed, slices.Clone(m.took)
	return c
}

// ofText is the sketch that is begun out of the model's text.
func (m *model) ofText() *model {
	c := &model{k: m.k, times: slices.Clone(m.times), came: slices.Clone(m.came)}
	for _, items := range m.items {
		c.items = append(c.items, slices.Clone(items))
	}
	return c
}

func (m *model) capacity(h int) int {
	twos, threes := 1, 1
	for range len(m.items) - 1 - h {
		twos, threes = twos*2, threes*3
	}
	return max(api.MinHold, (m.k*twos+threes-1)/threes)
}

// tooFull is the level that must be thinned, or -1.
func (m *model) tooFull() int {
	over, first := 0, -1
	for h := range m.items {
		over += len(m.items[h]) - m.capacity(h)
		if first < 0 && len(m.items[h]) > m.capacity(h) {
			first = h
		}
	}
	if over <= 0 {
		return -1
	}
	return first
}

func (m *model) grow(levels int) {
	for len(m.items) < levels {
		m.items = append(m.items, nil)
		m.times = append(m.times, 0)
	}
}

// add lets a number come in.
func (m *model) add(x, w int) {
	m.came = append(m.came, coming{x, w})
	for h := 0; w>>h > 0; h++ {
		m.grow(h + 1)
		if w>>h&1 == 1 {
			m.items[h] = append(m.items[h], x)
		}
	}
}

// merge lets all of o come in.
func (m *model) merge(o *model) {
	m.k = min(m.k, o.k)
	m.came = gathered(append(m.came, o.came...))
	m.grow(len(o.items))
	for h := range o.items {
		m.items[h] = append(m.items[h], o.items[h]...)
		m.times[h] += o.times[h]
	}
}

// gathered has each number once: else what came in would double with each Merge of a sketch into itself.
func gathered(came []coming) []coming {
	slices.SortFunc(came, func(a, b coming) int { return cmp.Compare(a.x, b.x) })
	each := []coming{}
	for _, c := range came {
		if last := len(each) - 1; last >= 0 && each[last].x == c.x {
			each[last].w += c.w
			continue
		}
		each = append(each, c)
	}
	return each
}

// settle answers how many coins were used, or -1 if there are too few.
func (m *model) settle(coins string) int {
	used := 0
	for h := m.tooFull(); h >= 0; h = m.tooFull() {
		if used == len(coins) {
			return -1
		}
		m.grow(h + 2)
		old := m.items[h]
		slices.Sort(old)
		m.items[h] = nil
		if len(old)%2 == 1 {
			m.items[h] = []int{old[0]}
			old = old[1:]
		}
		for pair := range slices.Chunk(old, 2) {
			m.items[h+1] = append(m.items[h+1], pair[coins[used]-'0'])
		}
		m.times[h]++
		used++
	}
	return used
}

func (m *model) count() int {
	count := 0
	for h, items := range m.items {
		count += len(items) << h
	}
	return count
}

// ends are the least and the greatest number that came in, or 0 and 0.
func (m *model) ends() (int, int) {
	least, greatest := 0, 0
	for i, c := range m.came {
		if i == 0 || c.x < least {
			least = c.x
		}
		if i == 0 || c.x > greatest {
			greatest = c.x
		}
	}
	return least, greatest
}

func (m *model) ledger() api.Ledger {
	ledger := api.Ledger{Times: m.times}
	for h, times := range m.times {
		ledger.Error += times << h
		ledger.Spread += times << (2 * h)
	}
	return ledger
}

// seenModel writes all that a desk with these sketches must tell of itself, as seen does.
func seenModel(sketches []*model, left int) string {
	text := fmt.Sprintf("left %d", left)
	for _, m := range sketches {
		size := api.Size{K: m.k, Count: m.count(), Levels: len(m.items)}
		levels := ""
		for _, items := range m.items {
			size.Items += len(items)
			slices.Sort(items)
			levels += fmt.Sprint(" ", items)
		}
		least, greatest := m.ends()
		text += fmt.Sprintf("; %+v, %d to %d, %+v", size, least, greatest, m.ledger()) + levels
		text += fmt.Sprintf(" %x", m.parts().text())
		text += m.seenHeld()
	}
	return text
}

// seenHeld writes whether it is sealed, and which of some reports it took, as the helper of that name does for a desk.
func (m *model) seenHeld() string {
	if m.sealed {
		return " sealed"
	}
	text := ""
	for _, n := range someNames() {
		if slices.Contains(m.took, n) {
			text += fmt.Sprint(" took ", n)
		}
	}
	return text
}

// wantAdd is what the model says of an Add, and the model and coins behind it.
func wantAdd(m *model, x, w int, coins string) (*model, string, api.Errno) {
	if m.sealed {
		return m, coins, api.ErrSealed
	}
	if w < 1 {
		return m, coins, api.ErrArg
	}
	if w > api.MaxCount-m.count() {
		return m, coins, api.ErrFull
	}
	next := m.copied()
	next.add(x, w)
	return settledModel(m, next, coins)
}

// wantMerge is what the model says of a Merge, and the model and coins behind it.
func wantMerge(m, o *model, coins string) (*model, string, api.Errno) {
	if m.sealed {
		return m, coins, api.ErrSealed
	}
	if m.count()+o.count() > api.MaxCount {
		return m, coins, api.ErrFull
	}
	next := m.copied()
	next.merge(o.copied())
	return settledModel(m, next, coins)
}

// wantTake is what the model says of a Take, and the model and coins behind it; o is nil if the text is no sketch's.
func wantTake(m *model, n name, o *model, coins string) (*model, string, api.Errno) {
	switch {
	case m.sealed:
		return m, coins, api.ErrSealed
	case n.sender < 0 || n.sender > 255 || n.seq < 0:
		return m, coins, api.ErrArg
	case slices.Contains(m.took, n):
		return m, coins, api.ErrTwice
	case o == nil:
		return m, coins, api.ErrText
	case len(m.took) == 64:
		return m, coins, api.ErrRoom
	}
	next, rest, e := wantMerge(m, o, coins)
	if e == api.OK {
		next.took = append(next.took, n)
	}
	return next, rest, e
}

// settledModel is next, settled, and the coins behind that; or m, if there are too few.
func settledModel(m, next *model, coins string) (*model, string, api.Errno) {
	used := next.settle(coins)
	if used < 0 {
		return m, coins, api.ErrTape
	}
	return next, coins[used:], api.OK
}

// weigh is what those items weigh that are above one number (or there is none) and at most another (or there is none).
func (m *model) weigh(above, upTo *int) int {
	sum := 0
	for h, items := range m.items {
		for _, x := range items {
			if (above == nil || x > *above) && (upTo == nil || x <= *upTo) {
				sum += 1 << h
			}
		}
	}
	return sum
}

func (m *model) rank(q int) api.Rank {
	n, off, mid := m.count(), m.ledger().Error, m.weigh(nil, &q)
	least, greatest := m.ends()
	switch {
	case q < least:
		return api.Rank{Low: 0, Mid: mid, High: 0}
	case q >= greatest:
		return api.Rank{Low: n, Mid: mid, High: n}
	}
	return api.Rank{Low: max(mid-off, 1), Mid: mid, High: min(mid+off, n-1)}
}

func (m *model) quantile(r int) int {
	least, greatest := m.ends()
	switch r {
	case 1:
		return least
	case m.count():
		return greatest
	}
	all := slices.Concat(m.items...)
	slices.Sort(all)
	for _, x := range all {
		if m.weigh(nil, &x) >= r {
			return x
		}
	}
	return 0
}

func (m *model) split(cuts []int) []int {
	parts := []int{}
	var above *int
	for i := range cuts {
		parts = append(parts, m.weigh(above, &cuts[i]))
		above = &cuts[i]
	}
	return append(parts, m.weigh(above, nil))
}

// nearItems are the items, the ends, the numbers just below and above them, and the edges; in rising order, each once.
func (m *model) nearItems() []int {
	least, greatest := m.ends()
	near := []int{lowest, highest}
	for _, x := range append(slices.Concat(m.items...), least, greatest) {
		near = append(near, x)
		if x > lowest {
			near = append(near, x-1)
		}
		if x < highest {
			near = append(near, x+1)
		}
	}
	slices.Sort(near)
	return slices.Compact(near)
}

// nearRanks are the ranks of all items, and those just below and above them.
func (m *model) nearRanks() []int {
	near := []int{1, m.count()}
	for _, q := range m.nearItems() {
		for r := m.weigh(nil, &q) - 1; r < m.weigh(nil, &q)+2; r++ {
			if r >= 1 && r <= m.count() {
				near = append(near, r)
			}
		}
	}
	slices.Sort(near)
	return slices.Compact(near)
}
