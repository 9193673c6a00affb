package texts

import (
	"fmt"
	"strings"
	"testing"

	"sketch/keep"
)

const (
	none = "SK\x02\x01\x00\x00\x00\x00\x00\xa1\x57"
	five = "\x05\x00\x00\x00\x00\x00\x00\x00"
)

// shown writes all that is in a sketch; lists without items alike, be they nil or not.
func shown(s keep.Sketch) string {
	text := fmt.Sprintf("%d, %d to %d:", s.K, s.Least, s.Greatest)
	for _, level := range s.Levels {
		text += fmt.Sprintf(" %v*%d", level.Items, level.Times)
	}
	return text
}

func cases() []struct {
	sketch keep.Sketch
	text   string
} {
	return []struct {
		sketch keep.Sketch
		text   string
	}{
		{keep.Begin(2), none},
		{keep.Begin(64), "SK\x40\x01\x00\x00\x00\x00\x00\xdf\x09"},
		{
			keep.Sketch{K: 2, Levels: []keep.Level{{Items: []int{5}}}, Least: 5, Greatest: 5},
			"SK\x02\x01\x01\x00\x00\x00\x00" + five + five + five + "\xb1\x7c",
		},
		{
			keep.Sketch{K: 2, Levels: []keep.Level{{Times: 258}, {Times: 3}, {Items: []int{-2, 1<<63 - 1}}, {Items: []int{5}}}, Least: -1 << 63, Greatest: 1<<63 - 1},
			"",
		},
	}
}

func TestWriteAndReadBack(t *testing.T) {
	for _, c := range cases() {
		text := Write(c.sketch)
		if c.text != "" && text != c.text {
			t.Errorf("P13: Write(%s) = %q, want %q", shown(c.sketch), text, c.text)
		}
		if got := told(text); shown(got) != shown(c.sketch) {
			t.Errorf("P14: what is told by %q is %s, want %s", text, shown(got), shown(c.sketch))
		}
	}
}

func TestWriteEachPartInItsPlace(t *testing.T) {
	text := Write(cases()[3].sketch)
	want := "SK\x02\x04" +
		"\x00\x02\x01\x00\x00" + "\x00\x03\x00\x00\x00" + "\x02\x00\x00\x00\x00" + "\x01\x00\x00\x00\x00" +
		"\x00\x00\x00\x00\x00\x00\x00\x80" + "\xff\xff\xff\xff\xff\xff\xff\x7f" +
		"\xfe\xff\xff\xff\xff\xff\xff\xff" + "\xff\xff\xff\xff\xff\xff\xff\x7f" + five
	if !strings.HasPrefix(text, want) || len(text) != len(want)+2 {
		t.Errorf("P13: Write = %q, want %q and two bytes of check", text, want)
	}
}

func TestReadAnswersASoundSketch(t *testing.T) {
	for _, c := range cases()[:3] {
		got, sound := Read(c.text)
		if !sound || shown(got) != shown(c.sketch) {
			t.Errorf("P14: Read(%q) = %s, %v, want %s", c.text, shown(got), sound, shown(c.sketch))
		}
	}
}

func TestReadAnswersNothingForOtherTexts(t *testing.T) {
	// The last one says what can be no sketch, though its form is right.
	for _, text := range []string{
		"", "S", "SK", "SK\x02", "SK\x02\x01", none[:10], none + "\x00", "sk" + none[2:], none[:9] + "\xa1\x58", none[:9] + "\xa0\x57",
		strings.Repeat("\xff", 100), "SK\x02\xff" + strings.Repeat("\xff", 70000), Write(keep.Begin(65)), Write(cases()[3].sketch),
	} {
		got, sound := Read(text)
		if sound || got.K != 0 || got.Levels != nil || got.Least != 0 || got.Greatest != 0 {
			t.Errorf("P14: Read(%.40q) = %s, %v, want nothing", text, shown(got), sound)
		}
	}
}

func FuzzRead(f *testing.F) {
	for _, c := range cases() {
		f.Add(Write(c.sketch))
	}
	f.Fuzz(func(t *testing.T, text string) {
		got, sound := Read(text)
		if sound && Write(got) != text {
			t.Errorf("P14: Read(%q) is written as %q", text, Write(got))
		}
		// Whatever is told, with the right check behind it.
		again := Write(told(text))
		got, sound = Read(again)
		if sound && Write(got) != again {
			t.Errorf("P14: Read(%q) is written as %q", again, Write(got))
		}
	})
}
