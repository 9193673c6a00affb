package keep

import "sketch/api"

// Rank tells how much of all that came in is at most q. The count is not 0.
func (s Sketch) Rank(q int) api.Rank {
	mid := s.upTo(q)
	if q < s.Least {
		return api.Rank{Mid: mid}
	}
	count := s.Count()
	if q >= s.Greatest {
		return api.Rank{Low: count, Mid: mid, High: count}
	}
	ledger := s.Ledger()
	rank := api.Rank{Low: mid - ledger.Error, Mid: mid, High: mid + ledger.Error}
	// Here the least number is at most q and the greatest is not, whatever the items tell.
	if rank.Low < 1 {
		rank.Low = 1
	}
	if rank.High > count-1 {
		rank.High = count - 1
	}
	return rank
}

// Quantile tells the number at place r, which is from 1 to the count.
func (s Sketch) Quantile(r int) int {
	if r == 1 {
		return s.Least
	}
	best := s.Greatest
	if r == s.Count() {
		return best
	}
	// Of the greatest item Mid is the count, so there is an item that will do; and none is above the greatest number.
	for _, level := range s.Levels {
		for _, x := range level.Items {
			if x < best && s.upTo(x) >= r {
				best = x
			}
		}
	}
	return best
}

// Split tells what the items weigh up to the first cut, from there up to the second, and so on, and above the last.
// The cuts rise; the list is fresh.
func (s Sketch) Split(cuts []int) []int {
	parts := make([]int, 0, len(cuts)+1)
	below := 0
	for _, cut := range cuts {
		upTo := s.upTo(cut)
		parts = append(parts, upTo-below)
		below = upTo
	}
	count := s.Count()
	return append(parts, count-below)
}

// upTo is what those items weigh together that are at most q.
func (s Sketch) upTo(q int) int {
	sum := 0
	weight := 1
	for _, level := range s.Levels {
		sum += weight * atMost(level.Items, q)
		weight *= 2
	}
	return sum
}

// atMost is how many of the items, which are in rising order, are at most q.
func atMost(items []int, q int) int {
	n := 0
	for n < len(items) && items[n] <= q {
		n++
	}
	return n
}
