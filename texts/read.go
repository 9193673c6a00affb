package texts

import "sketch/keep"

// reader is a text and the place from which on it is not read yet.
type reader struct {
	text string
	at   int
}

// Read answers the sketch whose text this is, or false if it is no sketch's.
func Read(text string) (keep.Sketch, bool) {
	s := told(text)
	if !s.Sound() {
		return keep.Sketch{}, false
	}
	// A sketch has one text only: where this is it, the mark, the check and the length are right as well.
	if Write(s) != text {
		return keep.Sketch{}, false
	}
	return s, true
}

// told is what the text says, be it a sketch or not.
func told(text string) keep.Sketch {
	r := reader{text: text, at: len(mark)}
	s := keep.Sketch{}
	s.K = r.next(smallBytes)
	levels := r.next(smallBytes)
	sizes := make([]int, levels)
	s.Levels = make([]keep.Level, levels)
	items := 0
	for h := range sizes {
		sizes[h] = r.next(smallBytes)
		s.Levels[h].Times = r.next(timesBytes)
		items += sizes[h]
	}
	if items > 0 {
		s.Least = r.next(numberBytes)
		s.Greatest = r.next(numberBytes)
	}
	for h, size := range sizes {
		s.Levels[h].Items = r.numbers(size)
	}
	return s
}

// next reads a number of so many bytes, the lowest first. Behind the text's end there are zeros.
func (r *reader) next(bytes int) int {
	number := uint64(0)
	place := uint64(1)
	for i := 0; i < bytes && r.at < len(r.text); i++ {
		number += place * uint64(r.text[r.at])
		place *= 256
		r.at++
	}
	return int(number)
}

// numbers reads so many numbers.
func (r *reader) numbers(many int) []int {
	list := make([]int, many)
	for i := range list {
		list[i] = r.next(numberBytes)
	}
	return list
}
