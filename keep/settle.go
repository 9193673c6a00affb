package keep

import "sketch/api"

// Settled answers a sketch like s that has settled, and how many of the coins that used.
// If there are too few coins, it answers false.
func (s Sketch) Settled(coins []bool) (Sketch, int, bool) {
	next := s.copied()
	used := 0
	// It ends: a level that is too full has a pair, since no capacity is below 2, and each pair drops an item.
	h, found := next.toThin()
	for found {
		if used == len(coins) {
			return Sketch{}, 0, false
		}
		next.thin(h, coins[used])
		used++
		h, found = next.toThin()
	}
	return next, used, true
}

// toThin finds the level that must be thinned next, or answers false if the sketch has settled.
func (s Sketch) toThin() (int, bool) {
	items := s.items()
	if items <= s.capacity() {
		return 0, false
	}
	for h, level := range s.Levels {
		if len(level.Items) > s.capacityAt(h) {
			return h, true
		}
	}
	return 0, false
}

// thin thins level h, which there is; of each pair the second goes up if the coin is 1 (true).
func (s *Sketch) thin(h int, coin bool) {
	items := s.Levels[h].Items
	stays := len(items) % 2
	goes := stays
	if coin {
		goes++
	}
	up := make([]int, 0, len(items)/2)
	for i := goes; i < len(items); i += 2 {
		up = append(up, items[i])
	}
	if h+1 == len(s.Levels) {
		s.Levels = append(s.Levels, Level{})
	}
	// A fresh list, so that dropped items do not go on taking memory behind the one that stays.
	s.Levels[h].Items = joined(nil, items[:stays])
	s.Levels[h].Times++
	s.Levels[h+1].Items = joined(s.Levels[h+1].Items, up)
}

// capacity is how many items the sketch may have.
func (s Sketch) capacity() int {
	sum := 0
	for h := range s.Levels {
		sum += s.capacityAt(h)
	}
	return sum
}

// capacityAt is how many items level h may have, as the levels are.
func (s Sketch) capacityAt(h int) int {
	return capacityOf(s.K, len(s.Levels)-1-h)
}

// capacityOf is the capacity of the level that has so many levels above it.
func capacityOf(k int, above int) int {
	twos := 1
	threes := 1
	for i := 0; i < above; i++ {
		twos *= 2
		threes *= 3
	}
	c := api.MinHold
	// c would not go above k anyway, threes being twos or more; asking makes the end of the loop plain.
	for c < k && c*threes < k*twos {
		c++
	}
	return c
}
