package sketch_test

import (
	"encoding/binary"
	"math/big"
	"slices"

	"sketch/api"
)

// parts is what a text says, be it a sketch's or not.
type parts struct {
	k               int
	items           [][]int
	times           []int
	least, greatest int
}

// partsOf has these items, was never thinned, and has the ends of its items.
func partsOf(k int, levels ...[]int) parts {
	p := parts{k: k, items: levels, times: make([]int, len(levels))}
	if all := slices.Concat(levels...); len(all) > 0 {
		p.least, p.greatest = slices.Min(all), slices.Max(all)
	}
	return p
}

func (p parts) thinned(times ...int) parts {
	p.times = times
	return p
}

func (p parts) ends(least, greatest int) parts {
	p.least, p.greatest = least, greatest
	return p
}

// body is the text without the check.
func (p parts) body() string {
	text := []byte{'S', 'K', byte(p.k), byte(len(p.items))}
	for h, items := range p.items {
		text = append(text, byte(len(items)))
		text = binary.LittleEndian.AppendUint32(text, uint32(p.times[h]))
	}
	numbers := slices.Concat(p.items...)
	if len(numbers) > 0 {
		numbers = slices.Insert(numbers, 0, p.least, p.greatest)
	}
	for _, x := range numbers {
		text = binary.LittleEndian.AppendUint64(text, uint64(x))
	}
	return string(text)
}

func (p parts) text() string {
	return signed(p.body())
}

// signed puts the check behind a text.
func signed(body string) string {
	first, second := 0, 0
	for n := range len(body) {
		first += int(body[n])
		// The byte is in the sum behind itself and in each one later.
		second += int(body[n]) * (len(body) - n)
	}
	return body + string([]byte{byte(first % 256), byte(second % 256)})
}

// parts are what the model's text says.
func (m *model) parts() parts {
	p := parts{k: m.k, times: m.times}
	for _, items := range m.items {
		p.items = append(p.items, slices.Sorted(slices.Values(items)))
	}
	p.least, p.greatest = m.ends()
	return p
}

// times2 is a number times 2^h, however great.
func times2(n, h int) *big.Int {
	return new(big.Int).Lsh(big.NewInt(int64(n)), uint(h))
}

// weighAbove is what the items of all levels above h weigh.
func (p parts) weighAbove(h int) *big.Int {
	sum := new(big.Int)
	for above := h + 1; above < len(p.items); above++ {
		sum.Add(sum, times2(len(p.items[above]), above))
	}
	return sum
}

// capacity is that of level h, by whole numbers however great.
func (p parts) capacity(h int) int {
	d := big.NewInt(int64(len(p.items) - 1 - h))
	threes := new(big.Int).Exp(big.NewInt(3), d, nil)
	twos := new(big.Int).Exp(big.NewInt(2), d, nil)
	twos.Mul(twos, big.NewInt(int64(p.k)))
	c := api.MinHold
	for new(big.Int).Mul(threes, big.NewInt(int64(c))).Cmp(twos) < 0 {
		c++
	}
	return c
}

// The points of P14, each by a name.
const (
	faultK        = "K"
	faultLevels   = "levels"
	faultTop      = "top"
	faultCount    = "count"
	faultItems    = "items"
	faultTimes    = "times"
	faultOrder    = "order"
	faultBelow    = "below the least"
	faultAbove    = "above the greatest"
	faultLeast    = "the least"
	faultGreatest = "the greatest"
)

// faults are the points of P14 that do not hold.
func (p parts) faults() []string {
	faults := []string{}
	fault := func(is bool, name string) {
		if is && !slices.Contains(faults, name) {
			faults = append(faults, name)
		}
	}
	levels := len(p.items)
	fault(p.k < api.MinK || p.k > api.MaxK, faultK)
	fault(levels < 1 || levels > api.MaxLevels, faultLevels)
	fault(levels > 1 && len(p.items[levels-1]) == 0, faultTop)
	fault(p.weighAbove(-1).Cmp(big.NewInt(api.MaxCount)) > 0, faultCount)
	all := slices.Concat(p.items...)
	capacity := 0
	for h, items := range p.items {
		capacity += p.capacity(h)
		need := times2(p.times[h], h)
		need.Mul(need, big.NewInt(int64(p.capacity(h))))
		fault(need.Cmp(p.weighAbove(h)) > 0, faultTimes)
		fault(!slices.IsSorted(items), faultOrder)
	}
	fault(len(all) > capacity, faultItems)
	if len(all) == 0 {
		return faults
	}
	fault(slices.Min(all) < p.least, faultBelow)
	fault(slices.Max(all) > p.greatest, faultAbove)
	if slices.Max(p.times) == 0 {
		fault(slices.Min(all) != p.least, faultLeast)
		fault(slices.Max(all) != p.greatest, faultGreatest)
	}
	return faults
}
