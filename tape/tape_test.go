package tape

import (
	"strings"
	"testing"
)

// shown writes the tape's coins as they were laid.
func shown(t *Tape) string {
	text := ""
	for _, coin := range t.Coins() {
		if coin {
			text += "1"
		} else {
			text += "0"
		}
	}
	return text
}

func TestAreCoins(t *testing.T) {
	for _, text := range []string{"", "0", "1", "0110", strings.Repeat("10", 5000)} {
		if !AreCoins(text) {
			t.Errorf("P4: AreCoins(%.20q) is false", text)
		}
	}
	for _, text := range []string{"2", "/", " ", "\x00", "\x01", "0 1", "x01", "01x", "\xb0", "０"} {
		if AreCoins(text) {
			t.Errorf("P4: AreCoins(%q) is true", text)
		}
	}
}

func TestCoinsComeInTheirOrder(t *testing.T) {
	var tape Tape
	for _, c := range []struct {
		lay  string
		use  int
		want string
	}{
		{"", 0, ""},
		{"0110", 0, "0110"},
		{"", 1, "110"},
		{"001", 0, "110001"},
		{"1", 3, "0011"},
		{"", 0, "0011"},
		{"", -1, "0011"},
		{"", 4, ""},
		{"10", 1, "0"},
		{"", 5, ""},
	} {
		tape.Lay(c.lay)
		tape.Use(c.use)
		if got := shown(&tape); got != c.want || tape.Left() != len(c.want) {
			t.Errorf("P4: behind Lay(%q), Use(%d): %q, Left %d, want %q", c.lay, c.use, got, tape.Left(), c.want)
		}
	}
}
