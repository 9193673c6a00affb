// Package texts: sketches written as texts, and read back.
package texts

import "sketch/keep"

const mark = "SK" // what every text begins with

// How many bytes a number takes.
const (
	smallBytes  = 1 // K, how many levels, how many items on a level, a part of the check
	timesBytes  = 4 // how many times a level was thinned
	numberBytes = 8 // a number that came in
)

// writer is a text as far as it is written.
type writer struct {
	bytes []byte
}

// Write makes the text of a sketch.
func Write(s keep.Sketch) string {
	w := writer{}
	w.bytes = append(w.bytes, mark...)
	w.put(s.K, smallBytes)
	w.put(len(s.Levels), smallBytes)
	for _, level := range s.Levels {
		w.put(len(level.Items), smallBytes)
		w.put(level.Times, timesBytes)
	}
	if s.Count() > 0 {
		w.put(s.Least, numberBytes)
		w.put(s.Greatest, numberBytes)
	}
	for _, level := range s.Levels {
		for _, x := range level.Items {
			w.put(x, numberBytes)
		}
	}
	sum, sums := w.check()
	w.put(sum, smallBytes)
	w.put(sums, smallBytes)
	return string(w.bytes)
}

// put writes a number as so many bytes, the lowest first.
func (w *writer) put(number int, bytes int) {
	// A number below 0 becomes itself plus 2^64 by this.
	rest := uint64(number)
	for i := 0; i < bytes; i++ {
		w.bytes = append(w.bytes, byte(rest%256))
		rest /= 256
	}
}

// check is the sum of all bytes so far, and the sum of the sums behind each of them, both modulo 256.
func (w *writer) check() (int, int) {
	sum := 0
	sums := 0
	for _, b := range w.bytes {
		sum = (sum + int(b)) % 256
		sums = (sums + sum) % 256
	}
	return sum, sums
}
