package valid_test

import (
	"fmt"
	"math"
	"reflect"
	"slices"
	"strconv"
	"strings"
	"testing"

	"keelson/api"
	"keelson/entry"
	"keelson/relation"
	"keelson/universe"
	"keelson/valid"
)

func atom(name string, op int, v string) api.Atom {
	return api.Atom{Name: name, Op: op, Version: v}
}

// atoms makes atoms of their texts.
func atoms(texts ...string) []api.Atom {
	var l []api.Atom
	for _, s := range texts {
		a, err := relation.Parse(s)
		if err != api.OK {
			panic(s)
		}
		l = append(l, a)
	}
	return l
}

// is makes an entry of its text: its name, its version, and its fields behind them.
func is(s string) api.Entry {
	head, fields, _ := strings.Cut(s, "; ")
	name, v, _ := strings.Cut(head, " ")
	text := "Package: " + name + "\nVersion: " + v + "\n" + strings.ReplaceAll(fields, "; ", "\n")
	l, _, err := entry.Index(text)
	if err != api.OK || len(l) != 1 {
		panic(s)
	}
	return l[0]
}

func all(texts ...string) []api.Entry {
	var l []api.Entry
	for _, s := range texts {
		l = append(l, is(s))
	}
	return l
}

// in is what is installed: a `!` behind a text says that it is held, a `?` that it is auto.
func in(texts ...string) []api.Here {
	var l []api.Here
	for _, s := range texts {
		bare := strings.TrimRight(s, "!?")
		marks := s[len(bare):]
		l = append(l, api.Here{Entry: is(bare), Auto: strings.Contains(marks, "?"), Hold: strings.Contains(marks, "!")})
	}
	return l
}

func made(t *testing.T, index []api.Entry, here []api.Here) *universe.Universe {
	t.Helper()
	u, err := universe.New(index, here)
	if err != api.OK {
		t.Fatal(err)
	}
	return u
}

// asks is a request.
func asks(install, remove []api.Atom) api.Request {
	return api.Request{Install: install, Remove: remove}
}

// The chapter's promises, said once more.

func rightOf(r api.Request) bool {
	for _, l := range [][]api.Atom{r.Install, r.Remove} {
		if len(l) >= 13 || slices.ContainsFunc(l, func(a api.Atom) bool { return relation.Print(a) == "" }) {
			return false
		}
	}
	return true
}

func setOf(u *universe.Universe, l []int) bool {
	for i, place := range l {
		if place < 0 || place >= u.Len() || i > 0 && l[i-1] >= place {
			return false
		}
	}
	return true
}

// telling is what a fault of a set is told from.
type telling struct {
	entries []api.Entry
	given   [][]api.Atom // by the entries' places
	held    []bool       // likewise
	r       api.Request
	has     []bool // likewise: is it in the set?
}

func tellingOf(u *universe.Universe, r api.Request, l []int) telling {
	x := telling{entries: u.Entries(), r: r, has: make([]bool, u.Len()), held: make([]bool, u.Len())}
	for place, e := range x.entries {
		x.given = append(x.given, entry.Gives(e))
		for _, h := range u.Here() {
			if h.Entry.Name == e.Name && h.Entry.Version == e.Version {
				x.held[place] = h.Hold
			}
		}
	}
	for _, place := range l {
		x.has[place] = true
	}
	return x
}

// gives tells whether a place is in the set, and its entry gives what an atom asks for.
func (x telling) gives(place int, a api.Atom) bool {
	return x.has[place] && slices.ContainsFunc(x.given[place], func(given api.Atom) bool { return relation.Provides(a, given) })
}

func (x telling) met(l ...api.Atom) bool {
	for place := range x.entries {
		for _, a := range l {
			if x.gives(place, a) {
				return true
			}
		}
	}
	return false
}

// faulty tells of anything at all whether it is a fault.
func (x telling) faulty(f valid.Fault) bool {
	n := len(x.entries)
	pair := f.A < f.B && f.B < n && x.has[f.A] && x.has[f.B]
	switch f.Kind {
	case 1:
		return pair && x.entries[f.A].Name == x.entries[f.B].Name
	case 2:
		return pair && entry.Fights(x.entries[f.A], x.entries[f.B])
	case 3:
		return f.A < n && x.has[f.A] && f.B < len(x.entries[f.A].Depends) && !x.met(x.entries[f.A].Depends[f.B]...)
	case 4:
		return f.A < n && f.B == 0 && x.held[f.A] && !x.has[f.A]
	case 5:
		return f.A < len(x.r.Install) && f.B == 0 && !x.met(x.r.Install[f.A])
	case 6:
		return f.A < len(x.r.Remove) && f.B < n && x.gives(f.B, x.r.Remove[f.A])
	}
	return false
}

// faultsOf goes over anything that may be a fault in the chapter's order: by kinds, then A, then B.
func faultsOf(u *universe.Universe, r api.Request, l []int) (faults []valid.Fault) {
	x, most := tellingOf(u, r, l), max(u.Len(), 12)
	for kind := 1; kind <= 6; kind++ {
		for a := range most {
			for b := range most {
				if f := (valid.Fault{Kind: kind, A: a, B: b}); x.faulty(f) {
					faults = append(faults, f)
				}
			}
		}
	}
	return faults
}

// closed tells of a set's faults whether it is closed.
func closed(faults []valid.Fault) bool {
	return !slices.ContainsFunc(faults, func(f valid.Fault) bool { return f.Kind <= 3 })
}

func closedOf(u *universe.Universe, l []int) bool {
	return setOf(u, l) && closed(faultsOf(u, api.Request{}, l))
}

// check holds all that is told of a set against the chapter's words (K1, K2).
func check(t *testing.T, u *universe.Universe, r api.Request, l []int) []valid.Fault {
	t.Helper()
	right, set := rightOf(r), setOf(u, l)
	if valid.Right(r) != right || valid.Set(u, l) != set {
		t.Fatalf("%.200v %.200v: right %v, not %v; set %v, not %v", r, l, valid.Right(r), right, valid.Set(u, l), set)
	}
	var want []valid.Fault
	wantErr, wantClosed := api.ErrArg, false
	switch {
	case right && set:
		want, wantErr = faultsOf(u, r, l), api.OK
		wantClosed = closed(want)
	case set:
		wantClosed = closedOf(u, l)
	}
	faults, err := valid.Faults(u, r, l)
	if !slices.Equal(faults, want) || err != wantErr {
		t.Fatalf("%.200v %.200v: %v %v, not %v %v", r, l, faults, err, want, wantErr)
	}
	if ok := valid.Meets(u, r, l); ok != (wantErr == api.OK && len(want) == 0) {
		t.Fatalf("%.200v %.200v: meets %v", r, l, ok)
	}
	if ok := valid.Closed(u, l); ok != wantClosed {
		t.Fatalf("%.200v: closed %v", l, ok)
	}
	return faults
}

// sets are all sets of the first n places.
func sets(n int) [][]int {
	all := [][]int{nil}
	for place := range n {
		for _, l := range all {
			all = append(all, append(slices.Clone(l), place))
		}
	}
	return all
}

// rows are all rows of at most n pieces.
func rows[T any](pieces []T, n int) [][]T {
	all, last := [][]T{nil}, [][]T{nil}
	for range n {
		var longer [][]T
		for _, row := range last {
			for _, p := range pieces {
				longer = append(longer, append(slices.Clone(row), p))
			}
		}
		all, last = append(all, longer...), longer
	}
	return all
}

// told is what Faults tells, as a text.
func told(t *testing.T, u *universe.Universe, r api.Request, l ...int) string {
	t.Helper()
	return fmt.Sprint(check(t, u, r, l))
}

// The chapter's example.
func TestExample(t *testing.T) {
	u := made(t, all("ab 1; Depends: cd | vv", "cd 1; Conflicts: ef", "ef 1; Provides: vv"), nil)
	none := api.Request{}
	if s := told(t, u, none, 0); s != "[{3 0 0}]" {
		t.Error(s)
	}
	if s := told(t, u, none, 0, 1, 2); s != "[{2 1 2}]" {
		t.Error(s)
	}
	if s := told(t, u, none, 0, 2); s != "[]" || !valid.Meets(u, none, []int{0, 2}) || !valid.Closed(u, []int{0, 2}) {
		t.Error(s)
	}
	if s := told(t, u, asks(atoms("cd"), atoms("vv")), 2); s != "[{5 0 0} {6 0 2}]" {
		t.Error(s)
	}
	if fmt.Sprint(valid.Twice, valid.Fight, valid.Open, valid.Away, valid.Missing, valid.Present) != "1 2 3 4 5 6" {
		t.Error("kinds")
	}
}

// wrong are atoms that are not right.
func wrong() []api.Atom {
	return []api.Atom{
		{}, atom("a", 0, ""), atom("A", 0, ""), atom("ab ", 0, ""), atom("ab\x00", 0, ""), atom("-ab", 0, ""), atom(strings.Repeat("a", 41), 0, ""),
		atom("ab", 0, "1"), atom("ab", 1, ""), atom("ab", 3, "x"), atom("ab", 3, "0:1"), atom("ab", 5, strings.Repeat("1", 61)),
		atom("ab", -1, "1"), atom("ab", -1, ""), atom("ab", 6, "1"), atom("ab", 6, ""), atom("ab", math.MaxInt, "1"), atom("ab", math.MinInt, "1"), atom("", 3, "1"),
	}
}

// K1: a request is right with 12 atoms of either, each of them right.
func TestRight(t *testing.T) {
	u := made(t, all("ab 1"), nil)
	pieces := append(atoms("ab", "cd (<< 1)", "ab (>= 1:2.0~rc1-3)", "ab (= 1)", "n"+strings.Repeat("x", 39)), atom("ab", api.AtMost, strings.Repeat("1", 60)))
	long := slices.Concat(pieces, pieces, pieces)
	for n := range 15 {
		for m := range 15 {
			for _, upgrade := range []bool{false, true} {
				r := api.Request{Install: long[:n], Remove: long[1 : m+1], Upgrade: upgrade}
				if valid.Right(r) != (n <= 12 && m <= 12) {
					t.Error(n, m, upgrade)
				}
				check(t, u, r, nil)
			}
		}
	}
	for i, bad := range wrong() {
		for n := 1; n <= 12; n++ {
			for place := range n {
				l := slices.Clone(long[:n])
				l[place] = bad
				for k, r := range []api.Request{asks(l, nil), asks(nil, l), asks(l, long[:12]), asks(long[:12], l), asks(l, l)} {
					if valid.Right(r) {
						t.Error(i, n, place, k)
					}
					check(t, u, r, []int{0})
				}
			}
		}
	}
	if !valid.Right(api.Request{}) || !valid.Right(api.Request{Upgrade: true}) || !valid.Right(asks([]api.Atom{}, []api.Atom{})) {
		t.Error("nothing")
	}
	// What is asked for twice, and to be there and away, is right all the same.
	if !valid.Right(asks(atoms("ab", "ab"), atoms("ab"))) {
		t.Error("twice")
	}
}

// K1: a set is places of the universe that rise: all rows of few numbers.
func TestSet(t *testing.T) {
	texts := []string{"ab 1", "ab 2", "cd 1; Depends: ab", "ef 1; Conflicts: cd"}
	for n := range len(texts) + 1 {
		u := made(t, all(texts[:n]...), nil)
		counted := 0
		for _, l := range rows([]int{-1, 0, 1, 2, 3, 4, 5}, 4) {
			check(t, u, api.Request{}, l)
			if valid.Set(u, l) {
				counted++
			}
		}
		if counted != 1<<n {
			t.Error(n, counted)
		}
		for _, x := range []int{math.MinInt, math.MinInt + 1, -2, n, n + 1, 63, 64, math.MaxInt - 1, math.MaxInt} {
			for _, l := range sets(n) {
				for i := range len(l) + 1 {
					if bad := slices.Insert(slices.Clone(l), i, x); x < 0 || x >= n {
						check(t, u, api.Request{}, bad)
						if valid.Set(u, bad) {
							t.Error(n, bad)
						}
					}
				}
			}
		}
		if !valid.Set(u, nil) || !valid.Set(u, []int{}) {
			t.Error(n)
		}
	}
	if u := made(t, all(texts...), nil); valid.Set(u, []int{math.MaxInt, math.MinInt}) || valid.Set(u, []int{0, 1, 1}) || valid.Set(u, []int{2, 1}) || !valid.Set(u, []int{0, 3}) {
		t.Error("rise")
	}
}

// K1: of what is not right, and of what is no set, ErrArg alone is told.
func TestRefused(t *testing.T) {
	u := made(t, all("ab 1; Depends: zz", "ab 2", "cd 1; Conflicts: ab"), in("ef 1!"))
	right := asks(atoms("zz"), atoms("ab"))
	lists := [][]int{{-1}, {4}, {1, 0}, {1, 1}, {0, 1, 2, 3, 4}, {0, 1, 2, 2}, {3, 2, 1, 0}, {-1, 0}, slices.Repeat([]int{0}, 1<<20), slices.Repeat([]int{0, 1, 2, 3}, 1<<18)}
	many := slices.Repeat(atoms("ab"), 13)
	requests := []api.Request{asks(wrong()[:1], nil), asks(nil, wrong()[:1]), asks(many, nil), asks(nil, many), asks(slices.Repeat(many, 1<<16), wrong())}
	for i, l := range lists {
		for k, r := range append(requests, right, api.Request{}) {
			faults, err := valid.Faults(u, r, l)
			if faults != nil || err != api.ErrArg || valid.Set(u, l) || valid.Meets(u, r, l) || valid.Closed(u, l) {
				t.Error(i, k, faults, err)
			}
			check(t, u, r, l)
		}
	}
	for i, r := range requests {
		for _, l := range sets(4) {
			faults, err := valid.Faults(u, r, l)
			if faults != nil || err != api.ErrArg || valid.Right(r) || valid.Meets(u, r, l) {
				t.Error(i, l, faults, err)
			}
			check(t, u, r, l)
		}
	}
	if valid.Meets(u, asks(nil, wrong()[:1]), []int{1, 3}) || !valid.Meets(u, api.Request{}, []int{1, 3}) { // the request alone is in the way
		t.Error("meets")
	}
}

// world is an index and a state, a request and a set, and what is told of its faults.
type world struct {
	index []api.Entry
	here  []api.Here
	r     api.Request
	l     []int
	want  string
}

func checkWorlds(t *testing.T, worlds []world) {
	t.Helper()
	for i, w := range worlds {
		u := made(t, w.index, w.here)
		if s := told(t, u, w.r, w.l...); s != w.want || valid.Meets(u, w.r, w.l) != (w.want == "[]") {
			t.Error(i, s)
		}
	}
}

// K1: by hand, what is wrong with a set in itself, and where it stands.
func TestInside(t *testing.T) {
	none := api.Request{}
	checkWorlds(t, []world{
		// Twice: each pair of one Name.
		{all("ab 1", "ab 2", "ab 3", "cd 1"), nil, none, []int{0, 1, 2, 3}, "[{1 0 1} {1 0 2} {1 1 2}]"},
		{all("ab 1", "ab 2", "ab 3", "cd 1"), nil, none, []int{0, 2, 3}, "[{1 0 2}]"},
		{all("ab 1", "ab 2", "ab 3", "cd 1"), nil, none, []int{1, 3}, "[]"},
		{all("ab 1", "ab 1-0", "cd 1; Provides: ab (= 1)"), nil, none, []int{0, 1, 2}, "[{1 0 1}]"}, // by names alone, not by what is given
		// Fight: from either side, of what is given; never of one Name.
		{all("ab 1; Conflicts: cd", "cd 1", "ef 1"), nil, none, []int{0, 1, 2}, "[{2 0 1}]"},
		{all("ab 1", "cd 1; Conflicts: ab (<< 2)", "cd 2; Conflicts: ab (>> 2)"), nil, none, []int{0, 1, 2}, "[{1 1 2} {2 0 1}]"},
		{all("ab 1; Conflicts: vv", "cd 1; Provides: vv", "ef 1; Conflicts: vv (>= 1)", "gh 1; Provides: vv (= 1)"), nil, none, []int{0, 1, 2, 3}, "[{2 0 1} {2 0 3} {2 2 3}]"},
		{all("ab 1; Conflicts: vv; Provides: vv", "ab 2; Conflicts: vv; Provides: vv"), nil, none, []int{0, 1}, "[{1 0 1}]"},
		{all("ab 1; Conflicts: ab, vv; Provides: vv"), nil, none, []int{0}, "[]"},
		{all("ab 1; Conflicts: cd, cd, vv", "cd 1; Conflicts: ab; Provides: vv"), nil, none, []int{0, 1}, "[{2 0 1}]"}, // once, however often
		// Open: of each group that nothing in the set meets, by any of its atoms.
		{all("ab 1; Depends: cd, ef | gh, ij", "cd 1", "ef 1", "gh 1", "ij 1"), nil, none, []int{0}, "[{3 0 0} {3 0 1} {3 0 2}]"},
		{all("ab 1; Depends: cd, ef | gh, ij", "cd 1", "ef 1", "gh 1", "ij 1"), nil, none, []int{0, 2}, "[{3 0 0} {3 0 2}]"},
		{all("ab 1; Depends: cd, ef | gh, ij", "cd 1", "ef 1", "gh 1", "ij 1"), nil, none, []int{0, 1, 3}, "[{3 0 2}]"},
		{all("ab 1; Depends: cd, ef | gh, ij", "cd 1", "ef 1", "gh 1", "ij 1"), nil, none, []int{0, 1, 2, 3, 4}, "[]"},
		{all("ab 1; Depends: cd (>= 2)", "cd 1", "cd 2"), nil, none, []int{0, 1}, "[{3 0 0}]"},
		{all("ab 1; Depends: cd (>= 2)", "cd 1", "cd 2"), nil, none, []int{0, 2}, "[]"},
		{all("ab 1; Depends: ab (= 1), vv | zz", "ab 2; Depends: vv", "cd 1; Provides: vv (= 3)"), nil, none, []int{0, 2}, "[]"}, // itself too
		{all("ab 1; Depends: vv; Provides: vv"), nil, none, []int{0}, "[]"},
		{all("ab 1; Depends: vv (= 1)", "cd 1; Provides: vv"), nil, none, []int{0, 1}, "[{3 0 0}]"},
		{all("ab 1; Depends: cd", "cd 1; Depends: ab"), nil, none, []int{0, 1}, "[]"},
		{all("ab 1; Depends: cd", "cd 1; Depends: ab"), nil, none, []int{1}, "[{3 1 0}]"},
		{all("ab 1; Recommends: cd"), nil, none, []int{0}, "[]"},                                                 // a wish is no need
		{all("ab 1; Depends: zz, zz", "cd 1; Depends: zz"), nil, none, []int{0, 1}, "[{3 0 0} {3 0 1} {3 1 0}]"}, // what nothing gives at all
		{nil, in("ab 1; Depends: cd", "cd 1"), none, []int{0}, "[{3 0 0}]"},                                      // installed, but not in the set
	})
}

// K1: by hand, what of a set is not as it is held and asked for, and where that stands.
func TestOutside(t *testing.T) {
	none := api.Request{}
	checkWorlds(t, []world{
		// Away: of each place that is held, not of others of its name.
		{all("ab 2"), in("ab 1!", "cd 1", "ef 1?!", "gh 1!"), none, nil, "[{4 0 0} {4 3 0} {4 4 0}]"},
		{all("ab 2"), in("ab 1!", "cd 1", "ef 1?!", "gh 1!"), none, []int{1, 3}, "[{4 0 0} {4 4 0}]"},
		{all("ab 2"), in("ab 1!", "cd 1", "ef 1?!", "gh 1!"), none, []int{0, 3, 4}, "[]"},
		{all("ab 1", "ab 3"), in("ab 2!"), none, []int{0, 2}, "[{1 0 2} {4 1 0}]"},
		{all("ab 1-0; Provides: ab (= 1)"), in("ab 1!"), none, []int{1}, "[{4 0 0}]"},
		// Missing: of each atom to install, by its number.
		{all("ab 1", "ab 2", "cd 1; Provides: vv"), nil, asks(atoms("ab (>= 2)", "vv", "ab", "zz"), nil), []int{0}, "[{5 0 0} {5 1 0} {5 3 0}]"},
		{all("ab 1", "ab 2", "cd 1; Provides: vv"), nil, asks(atoms("ab (>= 2)", "vv", "ab", "zz"), nil), []int{1, 2}, "[{5 3 0}]"},
		{all("ab 1", "cd 1; Provides: vv"), nil, asks(atoms("vv (= 1)", "zz", "zz"), nil), []int{0, 1}, "[{5 0 0} {5 1 0} {5 2 0}]"},
		{nil, nil, asks(atoms("ab"), nil), nil, "[{5 0 0}]"},
		{nil, in("ab 1"), asks(atoms("ab"), nil), nil, "[{5 0 0}]"}, // installed, but not in the set
		// Present: of each atom to remove, each place of the set that gives it.
		{all("ab 1", "ab 2", "cd 1; Provides: vv, ab (= 9)", "ef 1; Provides: vv"), nil, asks(nil, atoms("vv", "ab (>> 1)", "zz")), []int{0, 2, 3}, "[{6 0 2} {6 0 3} {6 1 2}]"},
		{all("ab 1", "ab 2", "cd 1; Provides: vv, ab (= 9)", "ef 1; Provides: vv"), nil, asks(nil, atoms("vv", "ab (>> 1)", "zz")), []int{0}, "[]"},
		{all("ab 1; Provides: vv, vv (= 1), vv (= 2)"), nil, asks(nil, atoms("vv", "vv (>= 1)", "vv")), []int{0}, "[{6 0 0} {6 1 0} {6 2 0}]"}, // once of each atom
		{all("ab 1"), nil, asks(atoms("ab"), atoms("ab")), []int{0}, "[{6 0 0}]"},
		{all("ab 1"), nil, asks(atoms("ab"), atoms("ab")), nil, "[{5 0 0}]"},
		// Upgrade asks nothing of a set.
		{all("ab 1", "ab 2"), in("ab 1"), api.Request{Upgrade: true}, []int{0}, "[]"},
		// All kinds, one behind the other.
		{all("ab 1; Depends: zz", "ab 2; Conflicts: cd", "cd 1; Depends: ef, zz"), in("ef 1!"), asks(atoms("ef", "ab"), atoms("cd", "ab")), []int{0, 1, 2}, "[{1 0 1} {2 1 2} {3 0 0} {3 2 0} {3 2 1} {4 3 0} {5 0 0} {6 0 2} {6 1 0} {6 1 1}]"},
	})
}

// K2: by hand, what is closed: what is held and what is asked for are not held against it.
func TestClosed(t *testing.T) {
	u := made(t, all("ab 1; Depends: cd", "ab 2", "cd 1", "ef 1; Conflicts: gh", "gh 1; Recommends: zz"), in("zz 1!"))
	for text, want := range map[string]bool{
		"[]": true, "[0]": false, "[0 2]": true, "[1]": true, "[0 1 2]": false, "[1 2 3]": true, "[3 4]": false, "[4]": true, "[3 5]": true, "[5]": true, "[0 3 4]": false,
		"[2 0]": false, "[1 1]": false, "[-1]": false, "[6]": false, "[1 6]": false,
	} {
		var l []int
		for _, s := range strings.Fields(strings.Trim(text, "[]")) {
			n, _ := strconv.Atoi(s)
			l = append(l, n)
		}
		if valid.Closed(u, l) != want || closedOf(u, l) != want {
			t.Error(text)
		}
		check(t, u, asks(atoms("zz"), atoms("ab")), l)
	}
}

// worlds are universes of few entries.
func worlds(t *testing.T) []*universe.Universe {
	return []*universe.Universe{
		{},
		made(t, nil, nil),
		made(t, all("ab 1; Depends: ab (>> 1)"), in("ab 2!")),
		made(t, all("ab 1; Depends: cd | vv", "cd 1; Conflicts: ef", "ef 1; Provides: vv"), nil),
		made(t, all("ab 1; Depends: cd | vv, ef", "ab 2; Conflicts: gh", "cd 1; Conflicts: vv (>= 2)", "ef 1; Provides: vv (= 2)", "gh 1; Depends: ij"), in("ab 0!", "zz 1", "zzz 1?!")),
		made(t, all("ab 1; Depends: ab (= 1), vv (<< 3)", "ab 1-0; Depends: zz; Provides: vv", "cd 1; Depends: ab; Conflicts: ab (>= 2), vv; Provides: vv (= 2), vv", "ef 1; Depends: cd, gh; Conflicts: ef", "gh 1; Depends: ef | zz, vv"), in("ab 2; Provides: ef (= 3); Conflicts: gh!", "gh 2; Depends: ab (<< 2)?")),
		made(t, nil, in("ab 1!", "cd 1; Depends: ab!", "ef 1; Conflicts: ab, cd; Recommends: zz!", "gh 1; Provides: ij!", "ij 1; Conflicts: gh")),
	}
}

// K1, K2: all sets of small universes, with requests for few things.
func TestAll(t *testing.T) {
	requests := []api.Request{{}, {Upgrade: true}, asks(wrong()[:1], nil), asks(nil, wrong()[7:8])}
	pieces := atoms("ab", "vv", "ab (>> 1)", "vv (= 2)", "zz", "gh (<= 1)")
	few := rows(pieces, 2)
	for i, l := range few {
		requests = append(requests, asks(l, nil), asks(nil, l), asks(l, few[i*5%len(few)]))
	}
	kinds := map[int]int{}
	for _, u := range worlds(t) {
		for _, l := range sets(u.Len()) {
			for _, r := range requests {
				for _, f := range check(t, u, r, l) {
					kinds[f.Kind]++
				}
			}
		}
	}
	for kind := 1; kind <= 6; kind++ {
		if kinds[kind] < 1000 {
			t.Error(kinds)
		}
	}
	if len(kinds) != 6 {
		t.Error(kinds)
	}
}

// K3: what follows.
func TestFollows(t *testing.T) {
	r := asks(atoms("zz"), atoms("ab", "vv"))
	for i, u := range worlds(t) {
		if !valid.Closed(u, nil) || valid.Meets(u, api.Request{}, nil) != (len(u.Held()) == 0) {
			t.Error(i)
		}
		for _, l := range sets(u.Len()) {
			faults, _ := valid.Faults(u, r, l)
			for place := range u.Len() {
				at, there := slices.BinarySearch(l, place)
				if there {
					continue
				}
				more := slices.Insert(slices.Clone(l), at, place)
				longer, err := valid.Faults(u, r, more)
				for _, f := range faults {
					if (f.Kind == valid.Twice || f.Kind == valid.Fight || f.Kind == valid.Present) && !slices.Contains(longer, f) {
						t.Error(i, l, place, f, longer, err)
					}
				}
				// Without the place again no other one's need is open: then what was closed is closed.
				open := slices.ContainsFunc(faultsOf(u, r, l), func(f valid.Fault) bool { return f.Kind == valid.Open })
				if valid.Closed(u, more) && !open && !valid.Closed(u, l) {
					t.Error(i, more, place)
				}
			}
		}
	}
}

// P1: as much of everything as there may be.
func TestFull(t *testing.T) {
	v := strings.Repeat("1", 58)
	var l []api.Entry
	for i := range 64 {
		e := api.Entry{Name: "n" + strconv.Itoa(i/2+10), Version: strconv.Itoa(i % 2)}
		for j := range 12 {
			e.Depends = append(e.Depends, slices.Repeat(api.Group{atom("vv", api.Less, v+strconv.Itoa(10+j))}, 6))
			e.Conflicts = append(e.Conflicts, atom("vv", api.Equal, v+strconv.Itoa(10+j)))
		}
		for j := range 8 {
			e.Provides = append(e.Provides, atom("vv", api.Equal, v+strconv.Itoa(30+j)))
		}
		l = append(l, e)
	}
	var here []api.Here
	for i := 0; i < 64; i += 2 {
		here = append(here, api.Here{Entry: l[i], Hold: true})
	}
	u := made(t, l, here)
	r := asks(slices.Repeat([]api.Atom{atom("vv", api.More, v+"37")}, 12), slices.Repeat([]api.Atom{atom("vv", api.Equal, v+"33")}, 12))
	whole := make([]int, 64)
	for i := range whole {
		whole[i] = i
	}
	count := func(places []int) (n [7]int) {
		faults, err := valid.Faults(u, r, places)
		if err != api.OK || valid.Meets(u, r, places) || valid.Closed(u, places) {
			t.Error(err)
		}
		for _, f := range faults {
			n[f.Kind]++
		}
		return n
	}
	if n := count(whole); n != [7]int{0, 32, 0, 64 * 12, 0, 12, 12 * 64} {
		t.Error(n)
	}
	if n := count(whole[1:2]); n != [7]int{0, 0, 0, 12, 32, 12, 12} {
		t.Error(n)
	}
	if valid.Set(u, append(whole, 64)) || valid.Set(u, append(whole, 63)) || !valid.Set(u, whole) {
		t.Error("set")
	}
	// All fight all: 2016 pairs, each once.
	for i := range l {
		l[i] = is("n" + strconv.Itoa(i+10) + " 1; Conflicts: vv; Provides: vv")
	}
	u = made(t, l, nil)
	check(t, u, api.Request{}, whole)
	if faults, _ := valid.Faults(u, api.Request{}, whole); len(faults) != 64*63/2 {
		t.Error(len(faults))
	}
}

// P1: anything at all, as a list, as a request, and of a universe that has nothing.
func TestAnything(t *testing.T) {
	texts := []string{"", "*", "ab", "vv", "\x00", "\xff\xfe", "é", " ", "\n", "1", "0:1", "-1", strings.Repeat("9", 61), strings.Repeat("a", 1<<20)}
	u := made(t, all("ab 1; Provides: vv (= 1)", "cd 2"), nil)
	for _, name := range texts {
		for _, v := range texts {
			for _, op := range []int{math.MinInt, -1, 0, 1, 3, 5, 6, math.MaxInt} {
				a := []api.Atom{atom(name, op, v)}
				for _, r := range []api.Request{asks(a, nil), asks(nil, a)} {
					check(t, u, r, nil)
					check(t, u, r, []int{0, 1})
				}
			}
		}
	}
	empty := &universe.Universe{}
	if !valid.Set(empty, nil) || !valid.Closed(empty, nil) || !valid.Meets(empty, api.Request{}, nil) || valid.Set(empty, []int{0}) {
		t.Error("empty")
	}
	if s := told(t, empty, asks(atoms("ab"), atoms("ab"))); s != "[{5 0 0}]" {
		t.Error(s)
	}
}

// P3: nothing that is handed in is written into, and what lies behind a list's length is not read.
func TestHandedIn(t *testing.T) {
	u := worlds(t)[5]
	names := []string{"ab", "vv", "zz", "gh"}
	for n := range len(names) + 1 {
		for _, set := range sets(u.Len()) {
			install, remove := append(atoms(names[:n]...), wrong()...), append(atoms(names[:n]...), wrong()...)
			list := append(slices.Clone(set), -1, 99, 0)
			r, l := asks(install[:n], remove[:n]), list[:len(set)]
			faults := check(t, u, r, l)
			if before, _ := valid.Faults(u, asks(atoms(names[:n]...), atoms(names[:n]...)), set); !slices.Equal(faults, before) {
				t.Error(n, set, faults, before)
			}
			same := append(atoms(names[:n]...), wrong()...)
			if !slices.Equal(install, same) || !slices.Equal(remove, same) || !slices.Equal(list, append(slices.Clone(set), -1, 99, 0)) {
				t.Fatal(n, set, install, remove, list)
			}
		}
	}
	if !reflect.DeepEqual(u, worlds(t)[5]) { // nor is the universe changed
		t.Error(u)
	}
}

// P3, P4: what is answered is new, and the same is told of the same, whatever came between.
func TestTwice(t *testing.T) {
	r := asks(atoms("ab", "zz"), atoms("vv"))
	var first []string
	for round := range 4 {
		var texts []string
		for _, u := range worlds(t) {
			for _, l := range sets(u.Len()) {
				faults, err := valid.Faults(u, r, l)
				text := fmt.Sprint(faults, err, valid.Meets(u, r, l), valid.Closed(u, l))
				for i := range faults[:cap(faults)] {
					faults[:cap(faults)][i] = valid.Fault{Kind: 7, A: 7, B: 7}
				}
				again, err := valid.Faults(u, r, l)
				if s := fmt.Sprint(again, err, valid.Meets(u, r, l), valid.Closed(u, l)); s != text {
					t.Fatal(s, text)
				}
				texts = append(texts, text)
			}
		}
		if round == 0 {
			first = texts
		}
		if !slices.Equal(texts, first) {
			t.Error(round)
		}
	}
}
