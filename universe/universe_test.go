package universe_test

import (
	"fmt"
	"maps"
	"reflect"
	"slices"
	"strconv"
	"strings"
	"testing"

	"keelson/api"
	"keelson/entry"
	"keelson/relation"
	"keelson/state"
	"keelson/universe"
)

func atom(name string, op int, v string) api.Atom {
	return api.Atom{Name: name, Op: op, Version: v}
}

func plain(name, v string) api.Entry { return api.Entry{Name: name, Version: v} }

// is makes an entry of its text: its name, its version, and its fields behind them.
func is(s string) api.Entry {
	head, fields, _ := strings.Cut(s, "; ")
	name, v, _ := strings.Cut(head, " ")
	text := "Package: " + name + "\nVersion: " + v + "\n" + strings.ReplaceAll(fields, "; ", "\n")
	l, _, err := entry.Index(text)
	if err != api.OK || len(l) != 1 {
		panic(s)
	}
	return l[0]
}

func all(texts ...string) []api.Entry {
	var l []api.Entry
	for _, s := range texts {
		l = append(l, is(s))
	}
	return l
}

// in is what is installed: a `!` behind a text says that it is held, a `?` that it is auto.
func in(texts ...string) []api.Here {
	var l []api.Here
	for _, s := range texts {
		bare := strings.TrimRight(s, "!?")
		marks := s[len(bare):]
		l = append(l, api.Here{Entry: is(bare), Auto: strings.Contains(marks, "?"), Hold: strings.Contains(marks, "!")})
	}
	return l
}

// many has n entries, of which each name has up to 3, in no order.
func many(n int) []api.Entry {
	l := []api.Entry{}
	for i := range n {
		j := i * 37 % n
		if n%37 == 0 {
			j = n - 1 - i
		}
		l = append(l, plain("n"+strconv.Itoa(1000+j/3), strconv.Itoa(j%3+9)))
	}
	return l
}

// manyHere has n things installed.
func manyHere(n int) []api.Here {
	l := []api.Here{}
	for i := range n {
		l = append(l, api.Here{Entry: plain("n"+strconv.Itoa(1000+i), "10"), Auto: i%2 == 0, Hold: i%3 == 0})
	}
	return l
}

// brief is the names and versions of entries.
func brief(l []api.Entry) string {
	var texts []string
	for _, e := range l {
		texts = append(texts, e.Name+" "+e.Version)
	}
	return fmt.Sprintf("%.400s", strings.Join(texts, ", "))
}

// alike takes a list that is nil and one that is empty as the same (P5).
func alike[T any](a, b []T) bool {
	return slices.EqualFunc(a, b, func(x, y T) bool { return reflect.DeepEqual(x, y) })
}

// The chapter's promises, said once more.

func entriesOf(index []api.Entry, here []api.Here) ([]api.Entry, api.Errno) {
	if !state.Right(here) {
		return nil, api.ErrArg
	}
	var l []api.Entry
	for _, h := range here {
		l = append(l, h.Entry)
	}
	seen := map[[2]string]int{}
	var kept []api.Entry
	for _, e := range append(l, index...) {
		if !entry.Right(e) {
			return nil, api.ErrArg
		}
		key := [2]string{e.Name, e.Version}
		if seen[key]++; seen[key] == 1 {
			kept = append(kept, e)
		}
	}
	if len(kept) >= 65 {
		return nil, api.ErrMany
	}
	// The place of each is how many are Less.
	put := make([]api.Entry, len(kept))
	for _, e := range kept {
		place := 0
		for _, x := range kept {
			if entry.Less(x, e) {
				place++
			}
		}
		put[place] = e
	}
	return put, api.OK
}

func namesOf(entries []api.Entry) []string {
	set := map[string]int{}
	for _, e := range entries {
		set[e.Name]++
	}
	return slices.Sorted(maps.Keys(set))
}

func placesOf(entries []api.Entry, is func(api.Entry) bool) (places []int) {
	for i, e := range entries {
		if is(e) {
			places = append(places, i)
		}
	}
	return places
}

func placeOf(entries []api.Entry, name, v string) int {
	return slices.IndexFunc(entries, func(e api.Entry) bool { return e.Name == name && e.Version == v })
}

func giversOf(entries []api.Entry, a api.Atom) []int {
	return placesOf(entries, func(e api.Entry) bool {
		return slices.ContainsFunc(entry.Gives(e), func(given api.Atom) bool { return relation.Provides(a, given) })
	})
}

func fightsOf(entries []api.Entry) (pairs [][2]int) {
	for b := range entries {
		for a := range b {
			if entry.Fights(entries[b], entries[a]) {
				pairs = append(pairs, [2]int{a, b})
			}
		}
	}
	slices.SortFunc(pairs, func(x, y [2]int) int { return slices.Compare(x[:], y[:]) })
	return pairs
}

var versions = []string{"", "0", "1", "01", "1-0", "2", "1~", "x", "10"}

// asked are the names, the versions and the atoms that a universe is asked for: what it has, and others.
func asked(entries []api.Entry) (names, vs []string, atoms []api.Atom) {
	set := map[string]int{"": 1, "zz": 1, "A": 1, "ab": 1, "vv": 1}
	sets := map[string]int{}
	for _, e := range entries {
		sets[e.Version]++
		for _, given := range entry.Gives(e) {
			set[given.Name]++
			sets[given.Version]++
		}
		for _, a := range e.Conflicts {
			set[a.Name]++
			atoms = append(atoms, a)
		}
		for _, g := range e.Depends {
			atoms = append(atoms, g...)
		}
	}
	names = slices.Sorted(maps.Keys(set))
	vs = slices.Compact(slices.Sorted(slices.Values(append(slices.Collect(maps.Keys(sets)), versions...))))
	for _, name := range names {
		for op := -1; op <= 6; op++ {
			for _, v := range versions[:6] {
				atoms = append(atoms, atom(name, op, v))
			}
		}
	}
	return names, vs, atoms
}

// check holds all that a universe tells against the chapter's words (U1 to U4).
func check(t *testing.T, index []api.Entry, here []api.Here) api.Errno {
	t.Helper()
	want, wantErr := entriesOf(index, here)
	u, err := universe.New(index, here)
	if err != wantErr || (u == nil) != (wantErr != api.OK) {
		t.Fatalf("%s: %v, not %v", brief(index), err, wantErr)
	}
	if err != api.OK {
		return err
	}
	if l := u.Entries(); !alike(l, want) || u.Len() != len(want) {
		t.Fatalf("%s: %s (%d), not %s", brief(index), brief(l), u.Len(), brief(want))
	}
	if l := u.Here(); !alike(l, here) {
		t.Fatalf("Here %v, not %v", l, here)
	}
	checkPlaces(t, u, want, here)
	names, vs, atoms := asked(want)
	for _, name := range names {
		of := placesOf(want, func(e api.Entry) bool { return e.Name == name })
		if l := u.Of(name); !slices.Equal(l, of) {
			t.Fatalf("%s: Of %q %v, not %v", brief(want), name, l, of)
		}
		for _, v := range vs {
			if n := u.Place(name, v); n != placeOf(want, name, v) {
				t.Fatalf("%s: Place %q %q %d", brief(want), name, v, n)
			}
		}
	}
	for _, a := range atoms {
		l := u.Givers(a)
		if !slices.Equal(l, giversOf(want, a)) {
			t.Fatalf("%s: Givers %v %v, not %v", brief(want), a, l, giversOf(want, a))
		}
		for _, place := range l { // U4: what gives a name with a version gives it without one
			if !slices.Contains(u.Givers(atom(a.Name, api.Any, "")), place) {
				t.Fatalf("%s: Givers %v %v", brief(want), a, l)
			}
		}
	}
	return api.OK
}

// checkPlaces holds what is told of all places.
func checkPlaces(t *testing.T, u *universe.Universe, want []api.Entry, here []api.Here) {
	t.Helper()
	if l := u.Names(); !slices.Equal(l, namesOf(want)) {
		t.Fatalf("%s: Names %q", brief(want), l)
	}
	if l := u.Fights(); !slices.Equal(l, fightsOf(want)) {
		t.Fatalf("%s: Fights %v, not %v", brief(want), l, fightsOf(want))
	}
	var installed, held []int
	for _, h := range here {
		place := placeOf(want, h.Entry.Name, h.Entry.Version)
		installed = append(installed, place)
		if h.Hold {
			held = append(held, place)
		}
		if !slices.Contains(u.Names(), h.Entry.Name) { // U4
			t.Fatalf("%s: Names %q", brief(want), u.Names())
		}
	}
	if !slices.Equal(u.Installed(), installed) || !slices.Equal(u.Held(), held) {
		t.Fatalf("%s: %v %v, not %v %v", brief(want), u.Installed(), u.Held(), installed, held)
	}
	// U4: each place is one of its Name's, and of no other one's.
	counted := make([]int, len(want))
	for _, name := range u.Names() {
		for _, place := range u.Of(name) {
			counted[place]++
			if want[place].Name != name {
				t.Fatalf("%s: Of %q %v", brief(want), name, u.Of(name))
			}
		}
	}
	if slices.ContainsFunc(counted, func(n int) bool { return n != 1 }) {
		t.Fatalf("%s: %v", brief(want), counted)
	}
}

// rows are all rows of at most n pieces.
func rows[T any](pieces []T, n int) [][]T {
	all, last := [][]T{nil}, [][]T{nil}
	for range n {
		var longer [][]T
		for _, row := range last {
			for _, p := range pieces {
				longer = append(longer, append(slices.Clone(row), p))
			}
		}
		all, last = append(all, longer...), longer
	}
	return all
}

func made(t *testing.T, index []api.Entry, here []api.Here) *universe.Universe {
	t.Helper()
	if err := check(t, index, here); err != api.OK {
		t.Fatal(brief(index), err)
	}
	u, _ := universe.New(index, here)
	return u
}

// The chapter's example.
func TestExample(t *testing.T) {
	u := made(t, all("ab 2", "ab 1", "cd 1; Provides: vv"), in("ab 1"))
	if s := brief(u.Entries()); s != "ab 1, ab 2, cd 1" || u.Len() != 3 {
		t.Error(s, u.Len())
	}
	if s := fmt.Sprint(u.Names(), u.Of("ab"), u.Place("cd", "1"), u.Place("cd", "2")); s != "[ab cd] [0 1] 2 -1" {
		t.Error(s)
	}
	if s := fmt.Sprint(u.Givers(atom("vv", api.Any, "")), u.Givers(atom("ab", api.AtLeast, "2")), u.Installed(), u.Held(), u.Fights()); s != "[2] [1] [0] [] []" {
		t.Error(s)
	}
}

// U1: by hand, which entries there are, and how they are put.
func TestEntries(t *testing.T) {
	for i, c := range []struct {
		index []api.Entry
		here  []api.Here
		want  string
	}{
		{nil, nil, ""},
		{nil, in("ab 1"), "ab 1"},
		{all("ab 1"), nil, "ab 1"},
		{all("ab 1"), in("ab 1"), "ab 1"},
		{all("ab 1", "ab 1", "ab 1"), nil, "ab 1"},
		{all("ab 2", "ab 1", "ab 2", "ab 1"), in("ab 2"), "ab 1, ab 2"},
		{all("cd 1", "ab 3"), in("ab 2", "ef 1"), "ab 2, ab 3, cd 1, ef 1"},
		// By the order of versions, not by their bytes.
		{all("ab 10", "ab 9", "ab 1:0", "ab 1~", "ab 1", "ab 1.0", "ab 1a"), in("ab 1+"), "ab 1~, ab 1, ab 1a, ab 1+, ab 1.0, ab 9, ab 10, ab 1:0"},
		// What is one in that order is put by its bytes, and each is an entry.
		{all("ab 1-00", "ab 1", "ab 1-0", "ab 001", "ab 01"), nil, "ab 001, ab 01, ab 1, ab 1-0, ab 1-00"},
		{all("ab 1-0", "ab 01", "ab 1"), in("ab 1"), "ab 01, ab 1, ab 1-0"},
		// Names by their bytes.
		{all("b0 1", "aa 1", "a0 1", "a. 1", "a- 1", "a+ 1", "0a 9", "aaa 0", "a9 1", "a10 1"), nil, "0a 9, a+ 1, a- 1, a. 1, a0 1, a10 1, a9 1, aa 1, aaa 0, b0 1"},
		// The name comes ahead of the version.
		{all("cd 1", "ab 2"), in("ab 3", "cd 0"), "ab 2, ab 3, cd 0, cd 1"},
		// One of the same version of another name is another one.
		{all("ab 1", "cd 1", "ef 1"), in("cd 1"), "ab 1, cd 1, ef 1"},
	} {
		u := made(t, c.index, c.here)
		if s := brief(u.Entries()); s != c.want {
			t.Error(i, s)
		}
		for range 3 { // in whatever order the index comes
			slices.Reverse(c.index)
			if len(c.index) > 2 {
				c.index[0], c.index[1] = c.index[1], c.index[0]
			}
			if s := brief(made(t, c.index, c.here).Entries()); s != c.want {
				t.Error(i, s)
			}
		}
	}
}

// U1: of one Name and Version here's entry is there; else the first one of the index.
func TestFirst(t *testing.T) {
	kinds := []string{"ab 1", "ab 1; Depends: cd", "ab 1; Provides: vv; Conflicts: cd", "ab 1; Recommends: ef | gh"}
	for i, first := range kinds {
		for j, second := range kinds {
			if u := made(t, all("cd 1", first, second), nil); !reflect.DeepEqual(u.Entries()[0], is(first)) || u.Len() != 2 {
				t.Error(i, j, u.Entries())
			}
			u := made(t, all(second, "cd 1", second), in(first+"!"))
			if !reflect.DeepEqual(u.Entries()[0], is(first)) || u.Len() != 2 || !reflect.DeepEqual(u.Here()[0].Entry, is(first)) {
				t.Error(i, j, u.Entries())
			}
			if given := len(u.Givers(atom("vv", 0, ""))); given != strings.Count(first, "vv") || len(u.Fights()) != given {
				t.Error(i, j, given, u.Fights())
			}
		}
	}
}

// U1: all rows of few entries, of all states of few things.
func TestAll(t *testing.T) {
	pieces := all("ab 1", "ab 2; Depends: cd | vv (>= 1)", "ab 1; Provides: vv (= 2), vv", "cd 1; Conflicts: vv (<< 3), ab (= 1); Provides: ab (= 7)", "ef 01; Conflicts: ef, cd", "ef 1-0; Provides: ef (= 2), vv")
	pieces = append(pieces, plain("A", "1"))
	states := [][]api.Here{nil, in("ab 1!"), in("ab 2?", "cd 1; Conflicts: ef!"), in("cd 1"), in("ab 3", "ef 1!", "zz 1?!"), in("ef 1-0"), append(in("cd 1"), in("ab 1")...), {{}}}
	counted := map[api.Errno]int{}
	for _, index := range rows(pieces, 3) {
		for _, here := range states {
			counted[check(t, index, here)]++
		}
	}
	if counted[api.OK] < 1500 || counted[api.ErrArg] < 1000 {
		t.Error(counted)
	}
}

// U1: an entry that is not right, and a state that is not, are refused, wherever they stand.
func TestRefused(t *testing.T) {
	for i, spoil := range []func(*api.Entry){
		func(e *api.Entry) { *e = api.Entry{} },
		func(e *api.Entry) { e.Name = "n" },
		func(e *api.Entry) { e.Name += "_" },
		func(e *api.Entry) { e.Name += strings.Repeat("x", 40) },
		func(e *api.Entry) { e.Version = "" },
		func(e *api.Entry) { e.Version = "x" },
		func(e *api.Entry) { e.Version = "0:1" },
		func(e *api.Entry) { e.Version = strings.Repeat("1", 61) },
		func(e *api.Entry) { e.Depends = []api.Group{nil} },
		func(e *api.Entry) { e.Recommends = make([]api.Group, 13) },
		func(e *api.Entry) { e.Conflicts = []api.Atom{{}} },
		func(e *api.Entry) { e.Provides = []api.Atom{atom("cd", api.AtLeast, "1")} },
		func(e *api.Entry) { e.Provides = slices.Repeat([]api.Atom{atom("cd", 0, "")}, 9) },
	} {
		for n := 1; n < 5; n++ {
			for place := range n {
				index, here := many(n), manyHere(n)
				made(t, index, here)
				spoil(&index[place])
				if err := check(t, index, nil); err != api.ErrArg {
					t.Error(i, n, place, err)
				}
				spoil(&here[place].Entry)
				if err := check(t, nil, here); err != api.ErrArg {
					t.Error(i, n, place, err)
				}
				if err := check(t, index, here); err != api.ErrArg {
					t.Error(i, n, place, err)
				}
			}
		}
		// Too many are told of right ones alone.
		index := append(many(70), many(70)...)
		spoil(&index[139])
		if err := check(t, index, nil); err != api.ErrArg {
			t.Error(i, err)
		}
	}
	// One that would fall away must be right too.
	index := all("ab 1", "ab 1")
	index[1].Depends = []api.Group{nil}
	if err := check(t, index, in("ab 1")); err != api.ErrArg {
		t.Error(err)
	}
	for i, here := range [][]api.Here{append(in("cd 1"), in("ab 1")...), append(in("ab 1"), in("ab 1")...), append(in("ab 1"), in("ab 2")...), {{}}, append(in("a9 1"), in("a10 1")...), manyHere(65)} {
		for _, n := range []int{0, 1, 64, 65} {
			if err := check(t, many(n), here); err != api.ErrArg {
				t.Error(i, n, err)
			}
		}
	}
}

// U1: 64 entries, no more, of both together; what falls away does not count.
func TestMany(t *testing.T) {
	for n := range 131 {
		want := api.OK
		if n > 64 {
			want = api.ErrMany
		}
		for _, index := range [][]api.Entry{many(n), append(many(n), many(n)...), append(many(n/2), many(n)...)} {
			if entries, _ := entriesOf(many(n), nil); want == api.OK && len(entries) != n {
				t.Fatal(n, len(entries))
			}
			if u, err := universe.New(index, nil); err != want || (u == nil) != (n > 64) || err == api.OK && u.Len() != n {
				t.Error(n, err)
			}
		}
	}
	for n := range 66 { // with n things installed, of other names, and of the same ones
		here := manyHere(n)
		for room := 60 - n; room <= 68-n; room++ {
			if room < 0 {
				continue
			}
			var index []api.Entry
			for i := range room {
				index = append(index, plain("new", strconv.Itoa(i)))
			}
			want := api.OK
			switch {
			case n > 64:
				want = api.ErrArg
			case n+room > 64:
				want = api.ErrMany
			}
			for _, h := range here {
				index = append(index, h.Entry)
			}
			if u, err := universe.New(index, here); err != want || err == api.OK && (u.Len() != n+room || len(u.Of("new")) != room || len(u.Installed()) != n) {
				t.Error(n, room, err)
			}
		}
	}
	for _, n := range []int{1, 2, 3, 37, 63, 64, 65} {
		check(t, many(n), nil)
		check(t, many(n), manyHere(n/3))
		check(t, nil, manyHere(n))
	}
}

// U2: by hand, what is told of names and of versions.
func TestNames(t *testing.T) {
	u := made(t, all("cd 2", "ab 1", "cd 10", "ef 1; Depends: gh; Conflicts: kl; Provides: vv, ab (= 5)", "cd 2-0"), in("cd 1?", "ij 3!"))
	if l := u.Names(); !slices.Equal(l, []string{"ab", "cd", "ef", "ij"}) { // not what is needed, fought or provided
		t.Error(l)
	}
	for name, want := range map[string]string{"ab": "[0]", "cd": "[1 2 3 4]", "ef": "[5]", "ij": "[6]", "vv": "[]", "gh": "[]", "kl": "[]", "": "[]", "a": "[]", "abc": "[]", "AB": "[]"} {
		if s := fmt.Sprint(u.Of(name)); s != want {
			t.Errorf("%q %s", name, s)
		}
	}
	for i, c := range []struct {
		name, v string
		want    int
	}{
		{"ab", "1", 0}, {"cd", "1", 1}, {"cd", "2", 2}, {"cd", "2-0", 3}, {"cd", "10", 4}, {"ef", "1", 5}, {"ij", "3", 6},
		{"ab", "5", -1}, {"vv", "", -1}, {"vv", "1", -1}, {"ab", "01", -1}, {"ab", "1-0", -1}, {"ab", "0:1", -1}, {"ab", "", -1}, {"cd", "02", -1}, {"", "", -1}, {"", "1", -1}, {"A", "1", -1}, {"ab 1", "", -1}, {"zz", "1", -1}, {"ab", "1 ", -1},
	} {
		if n := u.Place(c.name, c.v); n != c.want {
			t.Error(i, n)
		}
	}
}

// U2: by hand, what gives what is asked for: each place once, however often it gives it.
func TestGivers(t *testing.T) {
	u := made(t, all("ab 1", "ab 2; Provides: ab, ab (= 1)", "cd 1; Provides: vv, vv (= 3), vv (= 4)", "ef 1; Provides: vv (= 2), ab (= 9)", "ef 2; Provides: vv", "gh 1; Depends: xx; Recommends: xx; Conflicts: xx"), in("vv 1~"))
	for i, c := range []struct {
		a    api.Atom
		want string
	}{
		{atom("ab", api.Any, ""), "[0 1 3]"},
		{atom("ab", api.Equal, "1"), "[0 1]"}, {atom("ab", api.Equal, "01"), "[0 1]"}, {atom("ab", api.Equal, "0:1"), "[0 1]"}, {atom("ab", api.Equal, "2"), "[1]"}, {atom("ab", api.Equal, "9"), "[3]"},
		{atom("ab", api.Less, "2"), "[0 1]"}, {atom("ab", api.More, "1"), "[1 3]"}, {atom("ab", api.AtLeast, "1"), "[0 1 3]"}, {atom("ab", api.AtMost, "2"), "[0 1]"}, {atom("ab", api.More, "2"), "[3]"}, {atom("ab", api.Less, "1"), "[]"}, {atom("ab", api.More, "9"), "[]"},
		{atom("vv", api.Any, ""), "[2 3 4 6]"}, {atom("vv", api.AtLeast, "0"), "[2 3 6]"}, {atom("vv", api.Equal, "4"), "[2]"}, {atom("vv", api.Less, "3"), "[3 6]"}, {atom("vv", api.Less, "1"), "[6]"}, {atom("vv", api.More, "2"), "[2]"},
		{atom("cd", api.Any, ""), "[2]"}, {atom("ef", api.Any, ""), "[3 4]"}, {atom("ef", api.Equal, "2"), "[4]"},
		{atom("xx", api.Any, ""), "[]"}, {atom("zz", api.Any, ""), "[]"},
		// Atoms that are not right are held against it by the same words.
		{atom("ab", api.Any, "7"), "[0 1 3]"}, {atom("ab", api.Equal, ""), "[]"}, {atom("ab", api.AtLeast, "x"), "[]"}, {atom("ab", 6, "1"), "[]"}, {atom("ab", -1, "1"), "[]"}, {atom("", api.Any, ""), "[]"}, {atom("A", api.Any, ""), "[]"}, {atom("ab ", api.Any, ""), "[]"},
	} {
		if s := fmt.Sprint(u.Givers(c.a)); s != c.want {
			t.Error(i, c.a, s)
		}
	}
}

// U2: by hand, what is installed, and what of it is held.
func TestInstalled(t *testing.T) {
	for i, c := range []struct {
		index           []api.Entry
		here            []api.Here
		installed, held string
	}{
		{nil, nil, "[]", "[]"},
		{all("ab 1", "cd 1"), nil, "[]", "[]"},
		{nil, in("ab 1", "cd 1!", "ef 1?", "gh 1?!"), "[0 1 2 3]", "[1 3]"},
		{all("ab 1", "ab 3", "cd 1", "zz 1"), in("ab 2!", "cd 2", "ef 1!"), "[1 4 5]", "[1 5]"},
		{all("ab 1", "ab 1-0", "ab 01"), in("ab 1!"), "[1]", "[1]"},
		{all("ab 1; Provides: cd (= 1)", "cd 1"), in("cd 1?"), "[1]", "[]"},
		{all("ab 2; Depends: zz"), in("ab 2!"), "[0]", "[0]"},
	} {
		u := made(t, c.index, c.here)
		if s := fmt.Sprint(u.Installed()); s != c.installed {
			t.Error(i, s)
		}
		if s := fmt.Sprint(u.Held()); s != c.held {
			t.Error(i, s)
		}
		if l := u.Here(); !alike(l, c.here) {
			t.Error(i, l)
		}
	}
}

// U3: by hand, which pairs fight.
func TestFights(t *testing.T) {
	for i, c := range []struct {
		index []api.Entry
		here  []api.Here
		want  string
	}{
		{nil, nil, "[]"},
		{all("ab 1", "cd 1"), nil, "[]"},
		{all("ab 1; Conflicts: cd", "cd 1"), nil, "[[0 1]]"},
		{all("ab 1", "cd 1; Conflicts: ab"), nil, "[[0 1]]"},
		{all("ab 1; Conflicts: cd", "cd 1; Conflicts: ab"), nil, "[[0 1]]"}, // once
		{all("ab 1; Conflicts: ab, vv; Provides: vv", "ab 2; Conflicts: ab"), nil, "[]"},
		{all("ab 1; Conflicts: vv; Provides: vv", "cd 1; Conflicts: vv; Provides: vv", "ef 1; Provides: vv", "gh 1"), nil, "[[0 1] [0 2] [1 2]]"},
		{all("ef 1; Conflicts: ab, cd (>= 2)", "cd 3", "cd 1", "ab 1", "ab 2"), nil, "[[0 4] [1 4] [3 4]]"},
		{all("aa 1; Conflicts: zz", "ab 1; Conflicts: zz", "zz 1", "zz 2; Conflicts: aa"), nil, "[[0 2] [0 3] [1 2] [1 3]]"},
		{all("ab 1; Conflicts: vv (<< 2)", "cd 1; Provides: vv", "ef 1; Provides: vv (= 1)", "gh 1; Provides: vv (= 2)"), nil, "[[0 2]]"},
		{all("ab 1", "ab 2"), in("cd 1; Conflicts: ab (= 2)"), "[[1 2]]"},
		{all("cd 1; Conflicts: ab"), in("ab 1", "cd 1"), "[]"}, // here's entry fights nothing
	} {
		if s := fmt.Sprint(made(t, c.index, c.here).Fights()); s != c.want {
			t.Error(i, s)
		}
	}
	// All fight all: 2016 pairs, each once.
	var l []api.Entry
	for i := range 64 {
		l = append(l, is("n"+strconv.Itoa(i*29%64+10)+" 1; Conflicts: vv; Provides: vv"))
	}
	u := made(t, l, nil)
	next := 0
	for a := range 64 {
		for b := a + 1; b < 64; b++ {
			if u.Fights()[next] != [2]int{a, b} {
				t.Fatal(a, b, u.Fights()[next])
			}
			next++
		}
	}
	if len(u.Fights()) != next {
		t.Error(len(u.Fights()))
	}
}

// P1: lists that are long, and texts of any bytes.
func TestAnything(t *testing.T) {
	var long []api.Entry
	for i := range 1 << 16 {
		long = append(long, plain("n"+strconv.Itoa(i), "1"))
	}
	if err := check(t, long, manyHere(64)); err != api.ErrMany {
		t.Error(err)
	}
	if err := check(t, append(long, api.Entry{}), manyHere(64)); err != api.ErrArg {
		t.Error(err)
	}
	same := slices.Repeat(all("ab 1", "cd 1", "ab 2"), 1<<15)
	if u := made(t, same, in("ab 1!")); u.Len() != 3 {
		t.Error(u.Len())
	}
	if err := check(t, nil, slices.Repeat(in("ab 1"), 1<<16)); err != api.ErrArg {
		t.Error(err)
	}
	texts := []string{"", "*", "ab", "vv", "\x00", "\xff\xfe", "é", " ", "\n", "1", "0:1", "-1", strings.Repeat("9", 61), strings.Repeat("a", 1<<20)}
	u := made(t, all("ab 1; Provides: vv (= 1)", "cd 2"), nil)
	for _, name := range texts {
		for _, v := range texts {
			if n := u.Place(name, v); n != placeOf(u.Entries(), name, v) {
				t.Errorf("%.20q %.20q %d", name, v, n)
			}
			for _, op := range []int{-1 << 63, -1, 0, 1, 2, 3, 4, 5, 6, 1<<63 - 1} {
				if l := u.Givers(atom(name, op, v)); !slices.Equal(l, giversOf(u.Entries(), atom(name, op, v))) {
					t.Errorf("%.20q %d %.20q %v", name, op, v, l)
				}
			}
			if err := check(t, []api.Entry{plain(name, v)}, nil); (err == api.OK) != ((name == "ab" || name == "vv") && v == "1") {
				t.Errorf("%.20q %.20q %v", name, v, err)
			}
		}
		if l := u.Of(name); (name == "ab") != (len(l) == 1) {
			t.Errorf("%.20q %v", name, l)
		}
	}
}

// P1: as much of everything as an entry may have.
func TestFull(t *testing.T) {
	var l []api.Entry
	for i := range 64 {
		e := plain("n"+strconv.Itoa(i), "1")
		for j := range 12 {
			e.Conflicts = append(e.Conflicts, atom("vv", api.More, "1"+strings.Repeat("0", 50+j%9)))
			e.Depends = append(e.Depends, slices.Repeat(api.Group{atom("vv", api.AtLeast, strconv.Itoa(i))}, 6))
		}
		for j := range 8 {
			e.Provides = append(e.Provides, atom("vv", api.Equal, strconv.Itoa(i*8+j)))
		}
		l = append(l, e)
	}
	u, err := universe.New(l, nil)
	if err != api.OK || u.Len() != 64 || len(u.Names()) != 64 {
		t.Fatal(err)
	}
	if len(u.Fights()) != 0 || len(u.Givers(atom("vv", api.Less, "8"))) != 1 || len(u.Givers(atom("vv", api.Any, ""))) != 64 {
		t.Error(u.Fights())
	}
}

// P1: one that New did not make has nothing.
func TestZero(t *testing.T) {
	u := &universe.Universe{}
	if s := fmt.Sprint(u.Entries(), u.Here(), u.Len(), u.Names(), u.Of("ab"), u.Place("ab", "1"), u.Givers(atom("ab", 0, "")), u.Installed(), u.Held(), u.Fights()); s != "[] [] 0 [] [] -1 [] [] [] []" {
		t.Error(s)
	}
}

// P3: nothing that is handed in is written into or kept, and what lies behind a list's length is not read.
func TestHandedIn(t *testing.T) {
	texts := []string{"ef 1", "ab 2; Provides: vv", "cd 1; Conflicts: vv", "ab 1", "ab 2"}
	marked := []string{"ab 1!", "cd 1; Provides: vv?", "gh 2"}
	for n := range len(texts) + 1 {
		for m := range len(marked) + 1 {
			whole := append(all(texts[:n]...), is("behind 1"), plain("A", ""), is("ab 9"))
			wholeHere := append(in(marked[:m]...), in("behind 2!")[0], api.Here{}, in("aa 1")[0])
			index, here := whole[:n], wholeHere[:m]
			check(t, index, here)
			if !alike(whole, append(all(texts[:n]...), is("behind 1"), plain("A", ""), is("ab 9"))) || !alike(wholeHere, append(in(marked[:m]...), in("behind 2!")[0], api.Here{}, in("aa 1")[0])) {
				t.Error(n, m, whole, wholeHere)
			}
			u, _ := universe.New(index, here)
			before := tell(u)
			for i := range whole {
				whole[i] = is("changed 7; Provides: vv, ab")
			}
			for i := range wholeHere {
				wholeHere[i] = in("changed 7!?")[0]
			}
			if after := tell(u); after != before || strings.Contains(after, "changed") || strings.Contains(after, "behind") {
				t.Error(n, m, before, after)
			}
		}
	}
	whole := []string{"ab 1; Depends: cd | ef; Recommends: gh; Conflicts: vv; Provides: ab, vv", "cd 1; Conflicts: ab, vv; Provides: vv"}
	index, here := all(whole...), in(whole[1])
	check(t, index, here)
	if !alike(index, all(whole...)) || !alike(here, in(whole[1])) { // nor into what lies in an entry
		t.Error(index, here)
	}
}

// tell is all that a universe tells of itself.
func tell(u *universe.Universe) string {
	s := fmt.Sprint(u.Entries(), u.Here(), u.Len(), u.Names(), u.Installed(), u.Held(), u.Fights())
	for _, name := range append(u.Names(), "vv", "zz") {
		s += fmt.Sprint(u.Of(name), u.Place(name, "1"), u.Givers(atom(name, api.Any, "")), u.Givers(atom(name, api.AtLeast, "2")))
	}
	return s
}

// spoil changes a list, and what lies behind its length.
func spoil[T any](l []T, x T) {
	for i := range l {
		l[i] = x
	}
	l = append(l, x, x)
	for i := range l {
		l[i] = x
	}
	l = l[:cap(l)]
	for i := range l {
		l[i] = x
	}
}

// P3: what is answered is new: no change of it shows in a later answer.
func TestAnswered(t *testing.T) {
	index, here := all("ab 1; Conflicts: vv", "ab 2", "cd 1; Provides: vv, ab (= 5)", "ef 1; Provides: vv"), in("ab 2!", "ef 1?!", "gh 1")
	u := made(t, index, here)
	other, _ := universe.New(index, here)
	before := tell(u)
	for range 2 {
		spoil(u.Entries(), is("changed 7"))
		spoil(u.Here(), in("changed 7!?")[0])
		spoil(u.Names(), "changed")
		spoil(u.Of("ab"), 7)
		spoil(u.Of("zz"), 7)
		spoil(u.Givers(atom("vv", 0, "")), 7)
		spoil(u.Givers(atom("ab", api.AtLeast, "1")), 7)
		spoil(u.Installed(), 7)
		spoil(u.Held(), 7)
		spoil(u.Fights(), [2]int{7, 7})
		if tell(u) != before || tell(other) != before {
			t.Fatal(tell(u), tell(other), before)
		}
	}
	if !alike(index, all("ab 1; Conflicts: vv", "ab 2", "cd 1; Provides: vv, ab (= 5)", "ef 1; Provides: vv")) || !alike(here, in("ab 2!", "ef 1?!", "gh 1")) {
		t.Error(index, here)
	}
}

// P4: the same universe tells the same, whatever came between.
func TestTwice(t *testing.T) {
	var first []string
	for round := range 5 {
		var told []string
		for _, n := range []int{0, 1, 7, 40, 64} {
			u, err := universe.New(many(n), manyHere(n/4))
			other, errOther := universe.New(many(n), nil)
			if err != api.OK || errOther != api.OK {
				t.Fatal(n, err, errOther)
			}
			told = append(told, tell(u), tell(other), tell(u))
			if told[len(told)-1] != told[len(told)-3] {
				t.Error(n)
			}
		}
		if round == 0 {
			first = told
		}
		if !slices.Equal(told, first) {
			t.Error(round)
		}
	}
}
