// Package tape: coins, laid behind the last and used up from the first on.
package tape

// Tape is the coins that are not used up yet. A coin is true if it is 1, so that no other coin can be.
type Tape struct {
	coins []bool
}

// AreCoins tells whether each byte of the text is a coin.
func AreCoins(text string) bool {
	for i := 0; i < len(text); i++ {
		if text[i] != '0' && text[i] != '1' {
			return false
		}
	}
	return true
}

// Left tells how many coins are on the tape.
func (t *Tape) Left() int {
	return len(t.coins)
}

// Coins are those on the tape, the first to be used first: to be read only.
func (t *Tape) Coins() []bool {
	return t.coins
}

// Lay puts the coins of the text behind the tape's last.
func (t *Tape) Lay(text string) {
	for i := 0; i < len(text); i++ {
		t.coins = append(t.coins, text[i] == '1')
	}
}

// Use takes the first n coins off the tape, or all, if there are fewer.
func (t *Tape) Use(n int) {
	if n < 1 {
		return
	}
	// The rest is copied, so that coins that are used up do not go on taking memory.
	rest := []bool{}
	for i, coin := range t.coins {
		if i >= n {
			rest = append(rest, coin)
		}
	}
	t.coins = rest
}
