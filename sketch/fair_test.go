package sketch_test

import (
	"fmt"
	"math/rand"
	"slices"
	"strings"
	"testing"

	"sketch/sketch"
)

// step is a call of a script on three sketches: what comes into s.
type step struct {
	what    string
	s, o, x int
	w       int
}

// someScript has calls of all kinds; or, for leftAlone, only such as let the squares be promised.
func someScript(r *rand.Rand, leftAlone bool) []step {
	script := []step{}
	gone := [3]bool{}
	for i := range 10 + r.Intn(20) {
		c := step{"add", r.Intn(3), r.Intn(3), r.Intn(12), 1}
		if r.Intn(4) == 0 {
			c.w = 1 + r.Intn(5)
		}
		if i > 5 && r.Intn(6) == 0 {
			c.what = []string{"merge", "take", "copy"}[r.Intn(3)]
		}
		if leftAlone && c.what != "add" {
			c.what = "merge"
		}
		if leftAlone && (gone[c.s] || c.what == "merge" && (c.s == c.o || gone[c.o])) {
			continue
		}
		if c.what == "merge" {
			gone[c.o] = true
		}
		script = append(script, c)
	}
	return script
}

// run makes the calls of a script, and answers the numbers of the three sketches: a copy takes the place of its sketch.
func run(t *testing.T, d *sketch.Desk, script []step) [3]int {
	t.Helper()
	at := [3]int{0, 1, 2}
	begun := 3
	for i, c := range script {
		switch c.what {
		case "add":
			add(t, d, at[c.s], c.w, c.x)
		case "merge":
			merge(t, d, at[c.s], at[c.o])
		case "take":
			take(t, d, at[c.s], c.o, i, encode(t, d, at[c.o]))
		case "copy":
			if begun < 8 {
				decode(t, d, encode(t, d, at[c.s]), begun)
				at[c.s] = begun
				begun++
			}
		}
	}
	return at
}

// cameBy is what came into each of the three sketches, each number as often as it weighs.
func cameBy(script []step) [3][]int {
	came := [3][]int{}
	for _, c := range script {
		switch c.what {
		case "add":
			came[c.s] = slices.Concat(came[c.s], slices.Repeat([]int{c.x}, c.w))
		case "merge", "take":
			came[c.s] = slices.Concat(came[c.s], came[c.o])
		}
	}
	return came
}

// wantFairScript answers false if there are too many ways to try them all.
func wantFairScript(t *testing.T, ks []int, script []step, squaresToo bool) bool {
	t.Helper()
	once := deskOf(t, 8, strings.Repeat("0", 200), ks...)
	at := run(t, once, script)
	coins := 200 - once.Left()
	if coins > 8 {
		return false
	}
	desks := []*sketch.Desk{}
	for way := range 1 << coins {
		d := deskOf(t, 8, fmt.Sprintf("%0*b", coins, way)[:coins], ks...)
		run(t, d, script)
		wantLeft(t, d, 0)
		desks = append(desks, d)
	}
	for i, came := range cameBy(script) {
		wantFair(t, desks, at[i], came, squaresToo)
	}
	return true
}

func TestCoinsAreFairInScripts(t *testing.T) {
	r := rand.New(rand.NewSource(17))
	tried := [2]int{}
	for i := range 400 {
		kind := i % 2
		ks := []int{2 + r.Intn(3), 2 + r.Intn(3), 2 + r.Intn(6)}
		script := someScript(r, kind == 1)
		if wantFairScript(t, ks, script, kind == 1) {
			tried[kind]++
		}
		if t.Failed() {
			t.Fatalf("P17: with K %v: %v", ks, script)
		}
	}
	if tried[0] < 50 || tried[1] < 50 {
		t.Errorf("too few scripts were tried in all ways: %v", tried)
	}
}
