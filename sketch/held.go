package sketch

import "sketch/keep"

// held is a sketch on the desk. Whether it is sealed, and which reports it took, stand beside what is kept: merges and texts do not hand them on.
type held struct {
	kept   keep.Sketch
	sealed bool
	taken  []report
}

// report is what tells one report from others, whatever is in it.
type report struct {
	sender, seq int
}

// took tells whether this report was taken.
func (h held) took(name report) bool {
	for _, taken := range h.taken {
		if taken.sender == name.sender && taken.seq == name.seq {
			return true
		}
	}
	return false
}
