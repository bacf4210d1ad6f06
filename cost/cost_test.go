package cost_test

import (
	"fmt"
	"math"
	"reflect"
	"slices"
	"strconv"
	"strings"
	"testing"

	"keelson/api"
	"keelson/cost"
	"keelson/entry"
	"keelson/pins"
	"keelson/relation"
	"keelson/sum"
	"keelson/universe"
)

func pin(name, prefix string, priority int) api.Pin {
	return api.Pin{Name: name, Prefix: prefix, Priority: priority}
}

// is makes an entry of its text: its name, its version, and its fields behind them.
func is(s string) api.Entry {
	head, fields, _ := strings.Cut(s, "; ")
	name, v, _ := strings.Cut(head, " ")
	text := "Package: " + name + "\nVersion: " + v + "\n" + strings.ReplaceAll(fields, "; ", "\n")
	l, _, err := entry.Index(text)
	if err != api.OK || len(l) != 1 {
		panic(s)
	}
	return l[0]
}

func all(texts ...string) []api.Entry {
	var l []api.Entry
	for _, s := range texts {
		l = append(l, is(s))
	}
	return l
}

// in is what is installed: a `!` behind a text says that it is held, a `?` that it is auto.
func in(texts ...string) []api.Here {
	var l []api.Here
	for _, s := range texts {
		bare := strings.TrimRight(s, "!?")
		marks := s[len(bare):]
		l = append(l, api.Here{Entry: is(bare), Auto: strings.Contains(marks, "?"), Hold: strings.Contains(marks, "!")})
	}
	return l
}

func made(t *testing.T, index []api.Entry, here []api.Here) *universe.Universe {
	t.Helper()
	u, err := universe.New(index, here)
	if err != api.OK {
		t.Fatal(err)
	}
	return u
}

// The chapter's words, said once more.

func setOf(u *universe.Universe, l []int) bool {
	for i, place := range l {
		if place < 0 || place >= u.Len() || i > 0 && l[i-1] >= place {
			return false
		}
	}
	return true
}

func rightOf(l []api.Pin) bool {
	return !slices.ContainsFunc(l, func(p api.Pin) bool { return !pins.Right(p) })
}

// hereOf is the version of a name that is installed.
func hereOf(u *universe.Universe, name string) (string, bool) {
	for _, h := range u.Here() {
		if h.Entry.Name == name {
			return h.Entry.Version, true
		}
	}
	return "", false
}

func allowedOf(u *universe.Universe, l []api.Pin) []int {
	var places []int
	for place, e := range u.Entries() {
		v, known := hereOf(u, e.Name)
		if known && v == e.Version || pins.Priority(l, e.Name, e.Version) > -1 {
			places = append(places, place)
		}
	}
	return places
}

func behindOf(u *universe.Universe, l []api.Pin, place int) int {
	entries, n := u.Entries(), 0
	if place < 0 || place >= len(entries) {
		return 0
	}
	for _, other := range allowedOf(u, l) {
		if entries[other].Name == entries[place].Name && place < other {
			n++
		}
	}
	return n
}

func lossOf(u *universe.Universe, l []api.Pin, place int) int {
	entries := u.Entries()
	var versions []string
	for _, e := range entries {
		if e.Name == entries[place].Name {
			versions = append(versions, e.Version)
		}
	}
	return pins.Loss(l, entries[place].Name, versions, entries[place].Version)
}

func wantedOf(u *universe.Universe, l []int) int {
	if !setOf(u, l) {
		return 0
	}
	var given []api.Atom
	for _, place := range l {
		given = append(given, entry.Gives(u.Entries()[place])...)
	}
	n := 0
	for _, place := range l {
		for _, g := range u.Entries()[place].Recommends {
			met := 0
			for _, a := range g {
				for _, x := range given {
					if relation.Provides(a, x) {
						met++
					}
				}
			}
			if met == 0 {
				n++
			}
		}
	}
	return n
}

func costOf(u *universe.Universe, wished []api.Pin, upgrade bool, l []int) (api.Cost, api.Errno) {
	if !setOf(u, l) || !rightOf(wished) {
		return api.Cost{}, api.ErrArg
	}
	has := map[string]map[string]int{} // by names, how often each version
	for _, place := range l {
		e := u.Entries()[place]
		if has[e.Name] == nil {
			has[e.Name] = map[string]int{}
		}
		has[e.Name][e.Version]++
	}
	var c api.Cost
	for _, h := range u.Here() {
		switch {
		case has[h.Entry.Name] == nil:
			c[0]++
		case has[h.Entry.Name][h.Entry.Version] == 0 && !upgrade:
			c[2]++
		}
	}
	for _, place := range l {
		c[1] += lossOf(u, wished, place)
		if upgrade {
			c[2] += behindOf(u, wished, place)
		}
		if _, known := hereOf(u, u.Entries()[place].Name); !known {
			c[4]++
		}
	}
	c[3] = wantedOf(u, l)
	return c, api.OK
}

func weightsOf(u *universe.Universe, wished []api.Pin, upgrade bool) ([]api.Cost, api.Errno) {
	if !rightOf(wished) {
		return nil, api.ErrArg
	}
	var weights []api.Cost
	for place, e := range u.Entries() {
		w := api.Cost{1: lossOf(u, wished, place)}
		v, known := hereOf(u, e.Name)
		if !known {
			w[4] = 1
		}
		if known && v != e.Version {
			w[2] = 1
		}
		if upgrade {
			w[2] = behindOf(u, wished, place)
		}
		weights = append(weights, w)
	}
	return weights, api.OK
}

// checkPins holds what is told of a universe and pins against the chapter's words (Q1, Q2).
func checkPins(t *testing.T, u *universe.Universe, wished []api.Pin) {
	t.Helper()
	if l := cost.Allowed(u, wished); !slices.Equal(l, allowedOf(u, wished)) {
		t.Fatalf("%.300v: allowed %v, not %v", wished, l, allowedOf(u, wished))
	}
	for _, place := range append([]int{math.MinInt, -65, -64, -2, 64, 65, math.MaxInt}, span(-1, u.Len()+1)...) {
		if n := cost.Behind(u, wished, place); n != behindOf(u, wished, place) {
			t.Fatalf("%.300v %d: behind %d, not %d", wished, place, n, behindOf(u, wished, place))
		}
	}
	for _, upgrade := range []bool{false, true} {
		weights, err := cost.Weights(u, wished, upgrade)
		want, wantErr := weightsOf(u, wished, upgrade)
		if !slices.Equal(weights, want) || err != wantErr {
			t.Fatalf("%.300v %v: weights %v %v, not %v %v", wished, upgrade, weights, err, want, wantErr)
		}
	}
}

// check holds what is told of a set against the chapter's words (Q1, Q2), and answers what it costs.
func check(t *testing.T, u *universe.Universe, wished []api.Pin, upgrade bool, l []int) (api.Cost, api.Errno) {
	t.Helper()
	c, err := cost.Of(u, wished, upgrade, l)
	if want, wantErr := costOf(u, wished, upgrade, l); c != want || err != wantErr {
		t.Fatalf("%.300v %v %.200v: %v %v, not %v %v", wished, upgrade, l, c, err, want, wantErr)
	}
	if n := cost.Wanted(u, l); n != wantedOf(u, l) {
		t.Fatalf("%.200v: wanted %d, not %d", l, n, wantedOf(u, l))
	}
	return c, err
}

// told is a cost that is told, as a text.
func told(t *testing.T, u *universe.Universe, wished []api.Pin, upgrade bool, l ...int) string {
	t.Helper()
	c, err := check(t, u, wished, upgrade, l)
	if err != api.OK {
		t.Error(err)
	}
	return strings.Trim(fmt.Sprint(c), "[]")
}

// weigh are the weights that are told, as a text.
func weigh(t *testing.T, u *universe.Universe, wished []api.Pin, upgrade bool) string {
	t.Helper()
	checkPins(t, u, wished)
	weights, err := cost.Weights(u, wished, upgrade)
	if err != api.OK {
		t.Error(err)
	}
	return fmt.Sprint(weights)
}

// span are the numbers from one on, ahead of another.
func span(from, to int) []int {
	var l []int
	for n := from; n < to; n++ {
		l = append(l, n)
	}
	return l
}

// sets are all sets of the first n places.
func sets(n int) [][]int {
	all := [][]int{nil}
	for place := range n {
		for _, l := range all {
			all = append(all, append(slices.Clone(l), place))
		}
	}
	return all
}

// rows are all rows of at most n pieces.
func rows[T any](pieces []T, n int) [][]T {
	all, last := [][]T{nil}, [][]T{nil}
	for range n {
		var longer [][]T
		for _, row := range last {
			for _, p := range pieces {
				longer = append(longer, append(slices.Clone(row), p))
			}
		}
		all, last = append(all, longer...), longer
	}
	return all
}

// The chapter's example.
func TestExample(t *testing.T) {
	u := made(t, all("ab 1", "ab 2", "cd 1"), in("ab 1"))
	for _, c := range []struct {
		upgrade bool
		l       []int
		want    string
	}{
		{false, []int{0}, "0 0 0 0 0"}, {false, []int{1, 2}, "0 0 1 0 1"}, {false, nil, "1 0 0 0 0"}, {true, []int{0}, "0 0 1 0 0"},
	} {
		if s := told(t, u, nil, c.upgrade, c.l...); s != c.want {
			t.Error(c.l, s)
		}
	}
	if s := weigh(t, u, nil, false); s != "[[0 0 0 0 0] [0 0 1 0 0] [0 0 0 0 1]]" {
		t.Error(s)
	}
	if n := cost.Behind(u, nil, 0); n != 1 {
		t.Error(n)
	}
}

// Q1: by hand, what is allowed: of Priority 0 or more, or installed.
func TestAllowed(t *testing.T) {
	u := made(t, all("ab 1", "ab 2", "ab 3", "cd 1", "ef 1"), in("ab 2", "gh 1!", "ij 1?")) // ab 1, 2, 3, cd, ef, gh, ij
	for i, c := range []struct {
		pins []api.Pin
		want string
	}{
		{nil, "[0 1 2 3 4 5 6]"},
		{[]api.Pin{pin("ab", "", 0)}, "[0 1 2 3 4 5 6]"},
		{[]api.Pin{pin("ab", "", -1)}, "[1 3 4 5 6]"},
		{[]api.Pin{pin("ab", "3", -1000)}, "[0 1 3 4 5 6]"},
		{[]api.Pin{pin("ab", "3", 0), pin("ab", "", -1)}, "[1 2 3 4 5 6]"},
		{[]api.Pin{pin("ab", "", -1), pin("ab", "3", 0)}, "[1 3 4 5 6]"},
		{[]api.Pin{pin("*", "", -1)}, "[1 5 6]"},
		{[]api.Pin{pin("*", "", -1), pin("cd", "1", 1000), pin("ef", "2", 1000)}, "[1 3 5 6]"},
		{[]api.Pin{pin("*", "1", -1)}, "[1 2 5 6]"},
		{[]api.Pin{pin("gh", "", -1), pin("zz", "", -1), pin("a", "", -1)}, "[0 1 2 3 4 5 6]"},
		// No pin is asked whether it is right: what pins.Priority tells of it is told.
		{[]api.Pin{pin("ab", "", math.MinInt), pin("cd", "", math.MaxInt), pin("ef", "1", -1001)}, "[1 3 5 6]"},
		{[]api.Pin{{}, pin("", "", -1)}, "[0 1 2 3 4 5 6]"},
	} {
		checkPins(t, u, c.pins)
		if s := fmt.Sprint(cost.Allowed(u, c.pins)); s != c.want {
			t.Error(i, s)
		}
	}
	// 1-0 is one with 1 in their order, but it is not what is installed.
	u = made(t, all("ab 1-0"), in("ab 1"))
	if s := fmt.Sprint(cost.Allowed(u, []api.Pin{pin("ab", "", -1)})); s != "[0]" {
		t.Error(s)
	}
}

// Q1: by hand, how many of those allowed are greater.
func TestBehind(t *testing.T) {
	u := made(t, all("ab 1", "ab 2", "ab 10", "cd 1", "cd 1-0", "ef 1; Provides: ab (= 20)"), in("ab 2", "cd 2")) // ab 1, 2, 10, cd 1, 1-0, 2, ef
	for i, c := range []struct {
		pins []api.Pin
		want []int
	}{
		{nil, []int{2, 1, 0, 2, 1, 0, 0}},
		{[]api.Pin{pin("ab", "10", -1)}, []int{1, 0, 0, 2, 1, 0, 0}},
		{[]api.Pin{pin("ab", "", -1)}, []int{1, 0, 0, 2, 1, 0, 0}},   // what is installed is allowed
		{[]api.Pin{pin("ab", "1", -1)}, []int{1, 0, 0, 2, 1, 0, 0}},  // what is not allowed itself is behind too
		{[]api.Pin{pin("cd", "1-", -1)}, []int{2, 1, 0, 1, 1, 0, 0}}, // those that are one in their order are greater by their place
		{[]api.Pin{pin("cd", "2", -1)}, []int{2, 1, 0, 2, 1, 0, 0}},
		{[]api.Pin{pin("*", "", -1)}, []int{1, 0, 0, 1, 1, 0, 0}},
		{[]api.Pin{pin("*", "", -1), pin("ab", "", 0)}, []int{2, 1, 0, 1, 1, 0, 0}},
		{[]api.Pin{pin("ab", "", 1000), pin("ef", "", -1)}, []int{2, 1, 0, 2, 1, 0, 0}},
		{[]api.Pin{pin("ab", "10", math.MinInt), pin("", "", 1)}, []int{1, 0, 0, 2, 1, 0, 0}},
	} {
		checkPins(t, u, c.pins)
		for place, want := range c.want {
			if n := cost.Behind(u, c.pins, place); n != want {
				t.Error(i, place, n)
			}
		}
	}
	for _, place := range []int{math.MinInt, -1, 7, 64, math.MaxInt} {
		if n := cost.Behind(u, nil, place); n != 0 {
			t.Error(place, n)
		}
	}
}

// Q1: by hand, how many groups of Recommends a set does not meet.
func TestWanted(t *testing.T) {
	for i, c := range []struct {
		index []api.Entry
		here  []api.Here
		l     []int
		want  int
	}{
		{all("ab 1; Recommends: cd, ef | gh, ij", "cd 1", "ef 1", "gh 1", "ij 1"), nil, []int{0}, 3},
		{all("ab 1; Recommends: cd, ef | gh, ij", "cd 1", "ef 1", "gh 1", "ij 1"), nil, []int{0, 1}, 2},
		{all("ab 1; Recommends: cd, ef | gh, ij", "cd 1", "ef 1", "gh 1", "ij 1"), nil, []int{0, 2}, 2},
		{all("ab 1; Recommends: cd, ef | gh, ij", "cd 1", "ef 1", "gh 1", "ij 1"), nil, []int{0, 2, 3}, 2}, // met twice
		{all("ab 1; Recommends: cd, ef | gh, ij", "cd 1", "ef 1", "gh 1", "ij 1"), nil, []int{0, 1, 3, 4}, 0},
		{all("ab 1; Recommends: cd, ef | gh, ij", "cd 1", "ef 1", "gh 1", "ij 1"), nil, []int{1, 2, 3, 4}, 0}, // nobody wishes
		{all("ab 1; Recommends: cd (>= 2)", "cd 1", "cd 2"), nil, []int{0, 1}, 1},
		{all("ab 1; Recommends: cd (>= 2)", "cd 1", "cd 2"), nil, []int{0, 2}, 0},
		{all("ab 1; Recommends: vv (= 1), vv", "cd 1; Provides: vv"), nil, []int{0, 1}, 1},
		{all("ab 1; Recommends: vv (= 1), vv", "cd 2; Provides: vv (= 1)"), nil, []int{0, 1}, 0},
		{all("ab 1; Recommends: vv, ab (= 1), ab (>> 1); Provides: vv"), nil, []int{0}, 1}, // itself too
		{all("ab 1; Recommends: cd", "ab 2; Recommends: cd, cd", "ef 1; Recommends: cd"), nil, []int{0, 1, 2}, 4},
		{all("ab 1; Recommends: zz", "ab 2; Recommends: zz"), nil, []int{1}, 1},
		{all("ab 1; Depends: cd; Conflicts: ef", "ef 1"), nil, []int{0, 1}, 0}, // a need is no wish, and a fight keeps none away
		{all("ab 1; Recommends: cd; Conflicts: cd", "cd 1"), nil, []int{0, 1}, 0},
		{nil, in("ab 1; Recommends: cd!", "cd 1"), []int{0}, 1}, // installed, but not in the set
		{nil, in("ab 1; Recommends: cd!", "cd 1"), nil, 0},
		{all("ab 1; Recommends: zz"), nil, []int{0, 0}, 0}, // no sets
		{all("ab 1; Recommends: zz"), nil, []int{0, 1}, 0},
		{all("ab 1; Recommends: zz"), nil, []int{-1, 0}, 0},
		{all("ab 1; Recommends: zz", "cd 1; Recommends: zz"), nil, []int{1, 0}, 0},
	} {
		u := made(t, c.index, c.here)
		check(t, u, nil, false, c.l)
		if n := cost.Wanted(u, c.l); n != c.want {
			t.Error(i, n)
		}
	}
}

// Q2: by hand, each of the five sums.
func TestOf(t *testing.T) {
	u := made(t, all("ab 1", "ab 3; Recommends: cd, zz", "cd 1", "cd 2", "ef 1; Provides: gh"), in("ab 2", "gh 1!?", "ij 1; Recommends: ef")) // ab 1, 2, 3, cd 1, 2, ef, gh, ij
	some := []api.Pin{pin("ab", "2", 100), pin("ab", "3", -1000), pin("cd", "2", 1000), pin("*", "", 7), pin("gh", "2", 9)}
	for i, c := range []struct {
		pins    []api.Pin
		upgrade bool
		l       []int
		want    string
	}{
		{nil, false, nil, "3 0 0 0 0"},
		{nil, true, nil, "3 0 0 0 0"},
		{some, true, nil, "3 0 0 0 0"},
		{nil, false, []int{1, 6, 7}, "0 0 0 1 0"},
		{nil, false, []int{1, 6}, "1 0 0 0 0"},
		{nil, false, []int{5}, "3 0 0 0 1"}, // what gives a name is not of that name
		{nil, false, []int{0, 6, 7}, "0 0 1 1 0"},
		{nil, false, []int{2, 3, 5, 6, 7}, "0 0 1 1 2"},
		{nil, false, []int{0, 2, 6, 7}, "0 0 1 3 0"}, // a name that is there twice is one change
		{nil, false, []int{0, 1, 2, 6, 7}, "0 0 0 3 0"},
		{nil, false, []int{3, 4}, "3 0 0 0 2"}, // but each of its places is new
		{nil, true, []int{0, 6, 7}, "0 0 2 1 0"},
		{nil, true, []int{1, 3, 6}, "1 0 2 0 1"}, // what is new may be behind too
		{nil, true, []int{0, 1, 2, 3, 4}, "2 0 4 1 2"},
		{some, false, []int{0, 3}, "2 1086 1 0 1"},
		{some, false, []int{1}, "2 0 0 0 0"},
		{some, false, []int{2, 4}, "2 1100 1 1 1"},
		{some, true, []int{0, 3}, "2 1086 2 0 1"}, // ab 3 is not allowed
		{some, true, []int{2, 4}, "2 1100 0 1 1"},
		{some, true, []int{5, 6, 7}, "1 0 0 0 1"},
		{[]api.Pin{pin("cd", "1", -1000), pin("*", "2", 1000)}, true, []int{0, 3}, "2 2500 3 0 1"},
	} {
		if s := told(t, u, c.pins, c.upgrade, c.l...); s != c.want {
			t.Error(i, s)
		}
	}
}

// Q2: by hand, what each place adds.
func TestWeights(t *testing.T) {
	u := made(t, all("ab 1", "ab 3; Recommends: zz", "cd 1", "cd 2"), in("ab 2", "gh 1!")) // ab 1, 2, 3, cd 1, 2, gh
	some := []api.Pin{pin("ab", "2", -100), pin("ab", "3", -1000), pin("cd", "2", 1000)}
	if s := weigh(t, u, nil, false); s != "[[0 0 1 0 0] [0 0 0 0 0] [0 0 1 0 0] [0 0 0 0 1] [0 0 0 0 1] [0 0 0 0 0]]" {
		t.Error(s)
	}
	if s := weigh(t, u, nil, true); s != "[[0 0 2 0 0] [0 0 1 0 0] [0 0 0 0 0] [0 0 1 0 1] [0 0 0 0 1] [0 0 0 0 0]]" {
		t.Error(s)
	}
	if s := weigh(t, u, some, false); s != "[[0 0 1 0 0] [0 600 0 0 0] [0 1500 1 0 0] [0 500 0 0 1] [0 0 0 0 1] [0 0 0 0 0]]" {
		t.Error(s)
	}
	if s := weigh(t, u, some, true); s != "[[0 0 1 0 0] [0 600 0 0 0] [0 1500 0 0 0] [0 500 1 0 1] [0 0 0 0 1] [0 0 0 0 0]]" {
		t.Error(s)
	}
	// A version that is not allowed is one of its name's all the same.
	if s := weigh(t, made(t, all("ab 1", "ab 1-0"), in("ab 2")), []api.Pin{pin("ab", "1-", -1), pin("*", "", 3)}, true); s != "[[0 0 1 0 0] [0 4 1 0 0] [0 0 0 0 0]]" {
		t.Error(s)
	}
}

// wrong are pins that are not right.
func wrong() []api.Pin {
	return []api.Pin{
		{}, pin("", "1", 5), pin("a", "", 0), pin("A", "", 0), pin("**", "", 0), pin("ab ", "", 0), pin("ab\x00", "", 0), pin(strings.Repeat("a", 41), "", 0),
		pin("ab", "*", 0), pin("ab", " ", 0), pin("ab", "1\n", 0), pin("ab", "\x7f", 0), pin("ab", "é", 0), pin("*", strings.Repeat("1", 61), 0),
		pin("ab", "1", 1001), pin("ab", "1", -1001), pin("*", "", math.MaxInt), pin("*", "", math.MinInt), pin("zz", "9", 2000),
	}
}

// Q2: of pins that are not right, wherever they stand, and of what is no set, ErrArg alone is told.
func TestRefused(t *testing.T) {
	u := made(t, all("ab 1; Recommends: zz", "ab 2", "cd 1"), in("ef 1!"))
	lists := [][]int{{-1}, {4}, {1, 0}, {1, 1}, {0, 1, 2, 3, 4}, {0, 1, 2, 2}, {3, 2, 1, 0}, {-1, 0}, {math.MinInt, math.MaxInt}, slices.Repeat([]int{0}, 1<<20), slices.Repeat([]int{0, 1, 2, 3}, 1<<18)}
	right := []api.Pin{pin("ab", "1", 1000), pin("*", "", -1000), pin("zz", "~:"+strings.Repeat("1", 58), 0), pin("n"+strings.Repeat("x", 39), "", -1)}
	bad := [][]api.Pin{slices.Concat(slices.Repeat(right, 1<<18), wrong()[:1])}
	for _, p := range wrong() {
		bad = append(bad, []api.Pin{p})
		for at := range len(right) + 1 {
			bad = append(bad, slices.Insert(slices.Clone(right), at, p))
		}
	}
	good := [][]api.Pin{nil, {}, right, slices.Repeat(right, 17), slices.Repeat(right, 1<<12)} // more than there may be in a text too
	refused := func(wished []api.Pin, l []int) {
		t.Helper()
		for _, upgrade := range []bool{false, true} {
			if c, err := check(t, u, wished, upgrade, l); c != (api.Cost{}) || err != api.ErrArg {
				t.Errorf("%.300v %v %.200v: %v %v", wished, upgrade, l, c, err)
			}
		}
	}
	for _, wished := range good {
		checkPins(t, u, wished)
		told(t, u, wished, false, 0, 1, 3)
		for _, l := range lists {
			refused(wished, l)
		}
	}
	for _, wished := range bad {
		checkPins(t, u, wished)
		for _, upgrade := range []bool{false, true} {
			if weights, err := cost.Weights(u, wished, upgrade); len(weights) != 0 || err != api.ErrArg {
				t.Errorf("%.300v: %v %v", wished, weights, err)
			}
		}
		for _, l := range append(lists, nil, []int{}, []int{0}, []int{0, 1, 2, 3}) {
			refused(wished, l)
		}
	}
}

// worlds are universes of few entries.
func worlds(t *testing.T) []*universe.Universe {
	return []*universe.Universe{
		{},
		made(t, nil, nil),
		made(t, all("ab 1", "ab 2", "cd 1"), in("ab 1")),
		made(t, all("ab 1; Recommends: ab (>> 1)"), in("ab 2!")),
		made(t, all("ab 1", "ab 1-0; Recommends: ab (= 2)", "ab 1.0", "ab 10", "ab 2~a"), in("ab 2")),
		made(t, all("ab 1; Recommends: cd | vv, ef", "ab 2; Conflicts: gh; Recommends: zz, vv", "cd 1; Conflicts: vv (>= 2)", "ef 1; Provides: vv (= 2), cd"), in("ab 0!", "zz 1", "zzz 1; Recommends: ab (>= 1)?!")),
		made(t, all("ab 1", "cd 1; Recommends: vv; Provides: ab (= 9)", "cd 2; Depends: zz", "cd 3; Recommends: cd (<< 3) | ab", "ef 1; Recommends: ef, zz, zz"), nil),
		made(t, nil, in("ab 1", "cd 1; Depends: ab?", "ef 1; Conflicts: ab, cd; Recommends: zz", "gh 1; Provides: ij!")),
	}
}

// Q1, Q2: all sets of small universes, with rows of few pins.
func TestAll(t *testing.T) {
	pieces := []api.Pin{pin("ab", "", -1), pin("ab", "1", 0), pin("ab", "2", 900), pin("cd", "1", -1000), pin("*", "", 499), pin("*", "1", -3), pin("zz", "", 1000), pin("ab", "", 1001), pin("a", "", 7)}
	counted := map[bool]int{}
	var most api.Cost
	for _, u := range worlds(t) {
		for _, wished := range rows(pieces, 2) {
			checkPins(t, u, wished)
			for _, l := range sets(u.Len()) {
				for _, upgrade := range []bool{false, true} {
					c, err := check(t, u, wished, upgrade, l)
					counted[err == api.OK]++
					for i, n := range c {
						most[i] = max(most[i], n)
					}
				}
			}
		}
	}
	if counted[true] < 10000 || counted[false] < 1000 || slices.Min(most[:]) < 2 {
		t.Error(counted, most)
	}
}

// Q1, Q2: rows of numbers of any kind as lists.
func TestLists(t *testing.T) {
	u := worlds(t)[2]
	wished := []api.Pin{pin("ab", "2", 900)}
	for _, l := range rows([]int{-1, 0, 1, 2, 3, math.MaxInt, math.MinInt}, 4) {
		for _, upgrade := range []bool{false, true} {
			if _, err := check(t, u, wished, upgrade, l); (err == api.OK) != setOf(u, l) {
				t.Error(l, err)
			}
		}
	}
}

// Q3: what follows.
func TestFollows(t *testing.T) {
	pieces := []api.Pin{pin("ab", "", -1), pin("ab", "1", 0), pin("cd", "1", -1000), pin("*", "", 499), pin("*", "2", 1000)}
	for i, u := range worlds(t) {
		for _, wished := range rows(pieces, 2) {
			for _, upgrade := range []bool{false, true} {
				weights, _ := cost.Weights(u, wished, upgrade)
				installed(t, u, wished, upgrade)
				for _, l := range sets(u.Len()) {
					c, err := cost.Of(u, wished, upgrade, l)
					if err != api.OK || slices.Min(c[:]) < 0 {
						t.Error(i, wished, l, c, err)
					}
					if once(u, l) {
						added(t, weights, l, c)
					}
				}
			}
		}
	}
}

// installed asks what costs what is there.
func installed(t *testing.T, u *universe.Universe, wished []api.Pin, upgrade bool) {
	t.Helper()
	l := u.Installed()
	want := api.Cost{3: cost.Wanted(u, l)}
	for _, place := range l {
		want[1] += lossOf(u, wished, place)
		if upgrade {
			want[2] += cost.Behind(u, wished, place)
		}
	}
	if c, err := cost.Of(u, wished, upgrade, l); c != want || err != api.OK {
		t.Error(wished, upgrade, c, want, err)
	}
}

// added holds a cost against what its places weigh.
func added(t *testing.T, weights []api.Cost, l []int, c api.Cost) {
	t.Helper()
	var together api.Cost
	for _, place := range l {
		together, _ = sum.Join(together, weights[place])
	}
	if c[0], c[3] = 0, 0; c != together {
		t.Error(l, c, together)
	}
}

func once(u *universe.Universe, l []int) bool {
	names := map[string]int{}
	for _, place := range l {
		names[u.Entries()[place].Name]++
	}
	return len(names) == len(l)
}

// P1: as much of everything as there may be.
func TestFull(t *testing.T) {
	v := strings.Repeat("1", 58)
	var l []api.Entry
	for i := range 64 {
		e := api.Entry{Name: "n" + strconv.Itoa(i/32+10), Version: strconv.Itoa(i%32 + 100)}
		for j := range 12 {
			e.Recommends = append(e.Recommends, slices.Repeat(api.Group{{Name: "vv", Op: api.Less, Version: v + strconv.Itoa(10+j)}}, 6))
		}
		for j := range 8 {
			e.Provides = append(e.Provides, api.Atom{Name: "vv", Op: api.Equal, Version: v + strconv.Itoa(30+j)})
		}
		l = append(l, e)
	}
	whole := span(0, 64)
	u := made(t, l, []api.Here{{Entry: l[0]}, {Entry: l[40]}})
	// Allowed are the first and the last one of one name, and of the other one the one that is installed.
	wished := append(slices.Repeat([]api.Pin{pin("n10", "2", 1000)}, 1<<10), pin("n10", "131", 1000), pin("n11", "108", 1000), pin("*", "", -1000))
	checkPins(t, u, wished[1020:])
	for _, c := range []struct {
		pins    []api.Pin
		upgrade bool
		want    api.Cost
	}{{wished, false, api.Cost{0, 62 * 2000, 0, 64 * 12, 0}}, {wished, true, api.Cost{0, 62 * 2000, 31 + 8, 64 * 12, 0}}, {nil, true, api.Cost{0, 0, 2 * 31 * 32 / 2, 64 * 12, 0}}} {
		if x, err := cost.Of(u, c.pins, c.upgrade, whole); x != c.want || err != api.OK {
			t.Error(x, err)
		}
	}
	for i := range l {
		l[i] = api.Entry{Name: "n" + strconv.Itoa(i+10), Version: "1", Recommends: []api.Group{{{Name: "n" + strconv.Itoa((i+1)%64+10)}}}}
	}
	if s := told(t, made(t, l, nil), wished, true, whole[1:]...); s != "0 0 0 1 63" {
		t.Error(s)
	}
	var here []api.Here
	for _, e := range l {
		here = append(here, api.Here{Entry: e})
	}
	if s := told(t, made(t, nil, here), wished, true, whole[1:]...); s != "1 0 0 1 0" {
		t.Error(s)
	}
}

// P1: anything at all, as pins, and of a universe that has nothing.
func TestAnything(t *testing.T) {
	texts := []string{"", "*", "ab", "cd", "\x00", "\xff\xfe", "é", " ", "1", "2", strings.Repeat("9", 61), strings.Repeat("a", 1<<16)}
	u := made(t, all("ab 1", "cd 2", "cd 3; Recommends: ab"), in("ab 2"))
	for _, name := range texts {
		for _, prefix := range texts {
			for _, priority := range []int{math.MinInt, -1001, -1, 0, 500, 1001, math.MaxInt} {
				for _, wished := range [][]api.Pin{{pin(name, prefix, priority)}, {pin("*", "2", -1), pin(name, prefix, priority), pin(prefix, name, priority)}} {
					checkPins(t, u, wished)
					checkPins(t, &universe.Universe{}, wished)
					check(t, u, wished, true, []int{1, 2})
					check(t, u, wished, false, []int{0, 3})
					check(t, &universe.Universe{}, wished, true, nil)
				}
			}
		}
	}
	empty := &universe.Universe{}
	if s := told(t, empty, nil, true); s != "0 0 0 0 0" || cost.Behind(empty, nil, 0) != 0 || cost.Wanted(empty, []int{0}) != 0 || len(cost.Allowed(empty, nil)) != 0 {
		t.Error(s)
	}
	if weights, err := cost.Weights(empty, nil, false); len(weights) != 0 || err != api.OK {
		t.Error(weights, err)
	}
}

// P3: nothing that is handed in is written into, and what lies behind a list's length is not read.
func TestHandedIn(t *testing.T) {
	u := worlds(t)[5]
	right := []api.Pin{pin("ab", "1", 7), pin("*", "", 1000), pin("zz", "", -1)}
	for n := range len(right) + 1 {
		for _, set := range sets(u.Len()) {
			longPins, longSet := append(slices.Clone(right[:n]), wrong()...), append(slices.Clone(set), -1, 99, 0)
			check(t, u, longPins[:n], true, longSet[:len(set)])
			check(t, u, longPins[:n], false, longSet[:len(set)])
			if !slices.Equal(longPins, append(slices.Clone(right[:n]), wrong()...)) || !slices.Equal(longSet, append(slices.Clone(set), -1, 99, 0)) {
				t.Fatal(n, set, longPins, longSet)
			}
			if _, err := cost.Of(u, longPins[:n], true, longSet[:len(set)]); err != api.OK {
				t.Error(n, set, err)
			}
		}
		longPins := append(slices.Clone(right[:n]), wrong()...)
		checkPins(t, u, longPins[:n])
		if !slices.Equal(longPins, append(slices.Clone(right[:n]), wrong()...)) {
			t.Fatal(n, longPins)
		}
	}
	if !reflect.DeepEqual(u, worlds(t)[5]) { // nor is the universe changed
		t.Error(u)
	}
}

// P3, P4: what is answered is new, and the same is told of the same, whatever came between.
func TestTwice(t *testing.T) {
	wished := []api.Pin{pin("ab", "1", -7), pin("*", "", 1000)}
	var first []string
	for round := range 4 {
		var texts []string
		for _, u := range worlds(t) {
			for _, upgrade := range []bool{false, true} {
				weights, err := cost.Weights(u, wished, upgrade)
				allowed := cost.Allowed(u, wished)
				text := fmt.Sprint(weights, err, allowed)
				for i := range weights[:cap(weights)] {
					weights[:cap(weights)][i] = api.Cost{7, 7, 7, 7, 7}
				}
				for i := range allowed[:cap(allowed)] {
					allowed[:cap(allowed)][i] = 7
				}
				weights, err = cost.Weights(u, wished, upgrade)
				if s := fmt.Sprint(weights, err, cost.Allowed(u, wished)); s != text {
					t.Fatal(s, text)
				}
				for _, l := range sets(u.Len()) {
					c, err := cost.Of(u, wished, upgrade, l)
					text += fmt.Sprint(c, err, cost.Wanted(u, l), cost.Behind(u, wished, len(l)))
				}
				texts = append(texts, text)
			}
		}
		if round == 0 {
			first = texts
		}
		if !slices.Equal(texts, first) {
			t.Error(round)
		}
	}
}
