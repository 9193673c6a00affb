// Package sketch: few numbers kept of many, and how far off they may be: see DOC.md.
package sketch

import (
	"sketch/api"
	"sketch/keep"
	"sketch/tape"
	"sketch/texts"
)

// Desk holds a tape of coins, and sketches.
type Desk struct {
	room     int
	tape     tape.Tape
	sketches []held
}

// New makes a desk (P3).
func New(room int) (*Desk, api.Errno) {
	if room < 1 || room > api.MaxRoom {
		return nil, api.ErrArg
	}
	return &Desk{room: room}, api.OK
}

// Feed lays coins on the tape (P4).
func (d *Desk) Feed(coins string) api.Errno {
	if !tape.AreCoins(coins) {
		return api.ErrCoin
	}
	if len(coins) > api.MaxTape-d.tape.Left() {
		return api.ErrRoom
	}
	d.tape.Lay(coins)
	return api.OK
}

// Left tells how many coins are on the tape (P4).
func (d *Desk) Left() int {
	return d.tape.Left()
}

// Open begins a sketch (P5).
func (d *Desk) Open(k int) (int, api.Errno) {
	if k < api.MinK || k > api.MaxK {
		return 0, api.ErrArg
	}
	begun := keep.Begin(k)
	return d.begin(begun)
}

// Add lets a number come in (P6).
func (d *Desk) Add(s int, x int, w int) api.Errno {
	if !d.has(s) {
		return api.ErrSketch
	}
	if d.sketches[s].sealed {
		return api.ErrSealed
	}
	if w < 1 {
		return api.ErrArg
	}
	kept := d.sketches[s].kept
	// The count plus w could be too great for an int.
	if w > api.MaxCount-kept.Count() {
		return api.ErrFull
	}
	next := kept.With(x, w)
	return d.settle(s, next)
}

// Merge lets all that came into sketch t come into sketch s too (P9).
func (d *Desk) Merge(s int, t int) api.Errno {
	if !d.has(s) {
		return api.ErrSketch
	}
	if !d.has(t) {
		return api.ErrSketch
	}
	if d.sketches[s].sealed {
		return api.ErrSealed
	}
	comes := d.sketches[t].kept
	return d.merge(s, comes)
}

// Size tells what a sketch has (P7).
func (d *Desk) Size(s int) (api.Size, api.Errno) {
	if !d.has(s) {
		return api.Size{}, api.ErrSketch
	}
	return d.sketches[s].kept.Size(), api.OK
}

// Ends tells the least and the greatest number that came in (P7).
func (d *Desk) Ends(s int) (int, int, api.Errno) {
	if !d.has(s) {
		return 0, 0, api.ErrSketch
	}
	kept := d.sketches[s].kept
	if kept.Count() == 0 {
		return 0, 0, api.ErrEmpty
	}
	return kept.Least, kept.Greatest, api.OK
}

// Level tells the items of a level (P8).
func (d *Desk) Level(s int, h int) ([]int, api.Errno) {
	if !d.has(s) {
		return nil, api.ErrSketch
	}
	levels := d.sketches[s].kept.Levels
	if h < 0 || h >= len(levels) {
		return nil, api.ErrArg
	}
	// The caller may write into what comes out.
	items := make([]int, len(levels[h].Items))
	copy(items, levels[h].Items)
	return items, api.OK
}

// Ledger tells what was thinned (P8).
func (d *Desk) Ledger(s int) (api.Ledger, api.Errno) {
	if !d.has(s) {
		return api.Ledger{}, api.ErrSketch
	}
	return d.sketches[s].kept.Ledger(), api.OK
}

// Rank tells how much of all that came in is at most q (P10).
func (d *Desk) Rank(s int, q int) (api.Rank, api.Errno) {
	if !d.has(s) {
		return api.Rank{}, api.ErrSketch
	}
	kept := d.sketches[s].kept
	if kept.Count() == 0 {
		return api.Rank{}, api.ErrEmpty
	}
	return kept.Rank(q), api.OK
}

// Quantile tells the number at a place (P11).
func (d *Desk) Quantile(s int, r int) (int, api.Errno) {
	if !d.has(s) {
		return 0, api.ErrSketch
	}
	kept := d.sketches[s].kept
	count := kept.Count()
	if count == 0 {
		return 0, api.ErrEmpty
	}
	if r < 1 || r > count {
		return 0, api.ErrArg
	}
	return kept.Quantile(r), api.OK
}

// Split tells how much lies between cuts (P12).
func (d *Desk) Split(s int, cuts []int) ([]int, api.Errno) {
	if !d.has(s) {
		return nil, api.ErrSketch
	}
	kept := d.sketches[s].kept
	if kept.Count() == 0 {
		return nil, api.ErrEmpty
	}
	if len(cuts) > api.MaxCuts || !rise(cuts) {
		return nil, api.ErrArg
	}
	return kept.Split(cuts), api.OK
}

// Encode writes a sketch as a text (P13).
func (d *Desk) Encode(s int) (string, api.Errno) {
	if !d.has(s) {
		return "", api.ErrSketch
	}
	return texts.Write(d.sketches[s].kept), api.OK
}

// Decode begins a sketch out of a text (P14).
func (d *Desk) Decode(text string) (int, api.Errno) {
	read, sound := texts.Read(text)
	if !sound {
		return 0, api.ErrText
	}
	return d.begin(read)
}

// Seal lets nothing more come into a sketch (P15).
func (d *Desk) Seal(s int) api.Errno {
	if !d.has(s) {
		return api.ErrSketch
	}
	if d.sketches[s].sealed {
		return api.ErrSealed
	}
	d.sketches[s].sealed = true
	return api.OK
}

// Take lets a sender's report come in, once (P16).
func (d *Desk) Take(s int, sender int, seq int, text string) api.Errno {
	if !d.has(s) {
		return api.ErrSketch
	}
	if d.sketches[s].sealed {
		return api.ErrSealed
	}
	if sender < 0 || sender > api.MaxSender || seq < 0 {
		return api.ErrArg
	}
	name := report{sender: sender, seq: seq}
	if d.sketches[s].took(name) {
		return api.ErrTwice
	}
	comes, sound := texts.Read(text)
	if !sound {
		return api.ErrText
	}
	if len(d.sketches[s].taken) >= api.MaxTaken {
		return api.ErrRoom
	}
	// A report that does not come in is not taken, so that it may come once more.
	answer := d.merge(s, comes)
	if answer == api.OK {
		d.sketches[s].taken = append(d.sketches[s].taken, name)
	}
	return answer
}

// rise tells whether each cut is above the one ahead of it.
func rise(cuts []int) bool {
	for i := 1; i < len(cuts); i++ {
		if cuts[i] <= cuts[i-1] {
			return false
		}
	}
	return true
}

// has tells whether there is a sketch s on the desk.
func (d *Desk) has(s int) bool {
	return s >= 0 && s < len(d.sketches)
}

// begin puts a sketch on the desk, behind the last, and answers its number.
func (d *Desk) begin(kept keep.Sketch) (int, api.Errno) {
	if len(d.sketches) >= d.room {
		return 0, api.ErrRoom
	}
	begun := held{kept: kept}
	d.sketches = append(d.sketches, begun)
	return len(d.sketches) - 1, api.OK
}

// merge lets all that came into another sketch come into sketch s, which there is and which is not sealed.
func (d *Desk) merge(s int, comes keep.Sketch) api.Errno {
	kept := d.sketches[s].kept
	count := kept.Count()
	if count+comes.Count() > api.MaxCount {
		return api.ErrFull
	}
	next := kept.Merged(comes)
	return d.settle(s, next)
}

// settle puts next, once it has settled, in the place of sketch s, which there is.
// With too few coins sketch s stays as it was.
func (d *Desk) settle(s int, next keep.Sketch) api.Errno {
	coins := d.tape.Coins()
	settled, used, enough := next.Settled(coins)
	if !enough {
		return api.ErrTape
	}
	d.sketches[s].kept = settled
	d.tape.Use(used)
	return api.OK
}
