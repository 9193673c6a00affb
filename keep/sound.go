package keep

import "sketch/api"

// Sound tells whether s is as a sketch must be, so that it may be one that came from outside; s may have any numbers.
func (s Sketch) Sound() bool {
	// The shape comes first: where it is sound, no sum of weights is too great for an int.
	if !s.shapeSound() {
		return false
	}
	if !s.timesSound() {
		return false
	}
	if !s.itemsSound() {
		return false
	}
	return s.endsSound()
}

// shapeSound tells whether K, the levels, the items and the count are as many as may be.
func (s Sketch) shapeSound() bool {
	if s.K < api.MinK || s.K > api.MaxK {
		return false
	}
	levels := len(s.Levels)
	if levels < 1 || levels > api.MaxLevels {
		return false
	}
	if levels > 1 && len(s.Levels[levels-1].Items) == 0 {
		return false
	}
	items := s.items()
	if items > s.capacity() {
		return false
	}
	return s.Count() <= api.MaxCount
}

// timesSound tells whether enough has gone up for each level to have been thinned so many times.
func (s Sketch) timesSound() bool {
	above := s.Count()
	weight := 1
	for h, level := range s.Levels {
		above -= weight * len(level.Items)
		if level.Times < 0 || level.Times > above {
			return false
		}
		// Times are few by now: else this could be too great for an int.
		if level.Times*weight*s.capacityAt(h) > above {
			return false
		}
		weight *= 2
	}
	return true
}

// itemsSound tells whether each level's items are in rising order, and none is outside the ends.
func (s Sketch) itemsSound() bool {
	for _, level := range s.Levels {
		for i, x := range level.Items {
			if x < s.Least || x > s.Greatest {
				return false
			}
			if i > 0 && x < level.Items[i-1] {
				return false
			}
		}
	}
	return true
}

// endsSound tells whether the ends are items, unless they may have been dropped or there are none.
// No item is outside the ends.
func (s Sketch) endsSound() bool {
	if s.items() == 0 || s.wasThinned() {
		return true
	}
	return s.hasItem(s.Least) && s.hasItem(s.Greatest)
}

func (s Sketch) wasThinned() bool {
	for _, level := range s.Levels {
		if level.Times > 0 {
			return true
		}
	}
	return false
}

func (s Sketch) hasItem(x int) bool {
	for _, level := range s.Levels {
		for _, item := range level.Items {
			if item == x {
				return true
			}
		}
	}
	return false
}
