// Package keep: what a sketch keeps of all that came in, and how it is thinned.
package keep

import "sketch/api"

// Level is the items of a level, in rising order, and how many times it was thinned.
// A list of items is never written into once it stands here: so copies of a sketch may share it.
type Level struct {
	Items []int
	Times int
}

// Sketch is what is kept. Least and Greatest mean nothing as long as the count is 0.
type Sketch struct {
	K               int
	Levels          []Level
	Least, Greatest int
}

// Begin makes a sketch into which nothing came.
func Begin(k int) Sketch {
	return Sketch{K: k, Levels: make([]Level, 1)}
}

// Count is what all items weigh together.
func (s Sketch) Count() int {
	count := 0
	weight := 1
	for _, level := range s.Levels {
		count += weight * len(level.Items)
		weight *= 2
	}
	return count
}

// Size tells what the sketch has.
func (s Sketch) Size() api.Size {
	count := s.Count()
	items := s.items()
	return api.Size{K: s.K, Count: count, Items: items, Levels: len(s.Levels)}
}

// Ledger tells what was thinned; its list is fresh.
func (s Sketch) Ledger() api.Ledger {
	ledger := api.Ledger{Times: make([]int, 0, len(s.Levels))}
	weight := 1
	for _, level := range s.Levels {
		ledger.Times = append(ledger.Times, level.Times)
		ledger.Error += level.Times * weight
		ledger.Spread += level.Times * weight * weight
		weight *= 2
	}
	return ledger
}

// With answers a sketch like s into which x came too, with the weight w (1 or more). It has not settled.
func (s Sketch) With(x int, w int) Sketch {
	next := s.copied()
	next.widen(x, x)
	h := 0
	for rest := w; rest > 0; rest /= 2 {
		if h == len(next.Levels) {
			next.Levels = append(next.Levels, Level{})
		}
		if rest%2 == 1 {
			next.Levels[h].Items = joined(next.Levels[h].Items, []int{x})
		}
		h++
	}
	return next
}

// Merged answers a sketch like s into which all that came into t came too. It has not settled.
func (s Sketch) Merged(t Sketch) Sketch {
	next := s.copied()
	if t.K < next.K {
		next.K = t.K
	}
	// Without a count the ends of t mean nothing.
	if t.Count() > 0 {
		next.widen(t.Least, t.Greatest)
	}
	for h, level := range t.Levels {
		if h == len(next.Levels) {
			next.Levels = append(next.Levels, Level{})
		}
		next.Levels[h].Items = joined(next.Levels[h].Items, level.Items)
		next.Levels[h].Times += level.Times
	}
	return next
}

// copied answers a sketch like s whose levels are its own.
func (s Sketch) copied() Sketch {
	levels := make([]Level, len(s.Levels))
	copy(levels, s.Levels)
	return Sketch{K: s.K, Levels: levels, Least: s.Least, Greatest: s.Greatest}
}

// widen lets numbers from least to greatest count for the ends; it comes ahead of their becoming items.
func (s *Sketch) widen(least int, greatest int) {
	empty := s.Count() == 0
	if empty || least < s.Least {
		s.Least = least
	}
	if empty || greatest > s.Greatest {
		s.Greatest = greatest
	}
}

// items is how many items there are on all levels.
func (s Sketch) items() int {
	items := 0
	for _, level := range s.Levels {
		items += len(level.Items)
	}
	return items
}

// joined is a fresh list of all that stands in a and b; it is in rising order, as they are.
func joined(a []int, b []int) []int {
	all := make([]int, 0, len(a)+len(b))
	i := 0
	for _, x := range b {
		for i < len(a) && a[i] <= x {
			all = append(all, a[i])
			i++
		}
		all = append(all, x)
	}
	return append(all, a[i:]...)
}
