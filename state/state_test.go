package state_test

import (
	"fmt"
	"maps"
	"reflect"
	"slices"
	"sort"
	"strconv"
	"strings"
	"testing"

	"keelson/api"
	"keelson/entry"
	"keelson/stanza"
	"keelson/state"
)

func atom(name string, op int, v string) api.Atom {
	return api.Atom{Name: name, Op: op, Version: v}
}

func here(name, v string, auto, hold bool) api.Here {
	return api.Here{Entry: api.Entry{Name: name, Version: v}, Auto: auto, Hold: hold}
}

func plain(name string) api.Here { return here(name, "1", false, false) }

// full is something installed that has something of everything.
func full() api.Here {
	return api.Here{
		Entry: api.Entry{
			Name: "ab", Version: "1:2-3",
			Depends:    []api.Group{{atom("cd", 0, ""), atom("ef", api.AtLeast, "1")}, {atom("gh", 0, "")}},
			Recommends: []api.Group{{atom("ij", 0, "")}},
			Conflicts:  []api.Atom{atom("kl", api.Less, "2"), atom("mn", 0, "")},
			Provides:   []api.Atom{atom("op", 0, ""), atom("qr", api.Equal, "7")},
		},
		Auto: true, Hold: true,
	}
}

const fullText = "Package: ab\nVersion: 1:2-3\nDepends: cd | ef (>= 1), gh\nRecommends: ij\nConflicts: kl (<< 2), mn\nProvides: op, qr (= 7)\nAuto: yes\nHold: yes\n"

// many has n things installed, by rising names.
func many(n int) []api.Here {
	l := []api.Here{}
	for i := range n {
		l = append(l, here("n"+strconv.Itoa(1000+i), "1", i%2 == 0, i%3 == 0))
	}
	return l
}

// alike holds answers against one another: of a list of nothing it does not ask whether it is nil.
func alike(a, b []api.Here) bool { return slices.EqualFunc(a, b, same) }

func same(a, b api.Here) bool {
	x, y := a.Entry, b.Entry
	return a.Auto == b.Auto && a.Hold == b.Hold && x.Name == y.Name && x.Version == y.Version &&
		sameGroups(x.Depends, y.Depends) && sameGroups(x.Recommends, y.Recommends) && slices.Equal(x.Conflicts, y.Conflicts) && slices.Equal(x.Provides, y.Provides)
}

func sameGroups(a, b []api.Group) bool {
	return slices.EqualFunc(a, b, func(g, h api.Group) bool { return slices.Equal(g, h) })
}

// brief is what is told of x, if that is not long.
func brief(x any) string { return fmt.Sprintf("%.300s", fmt.Sprintf("%q", x)) }

// The chapter's words, and its promises, said once more.

func rightOf(l []api.Here) bool {
	if len(l) >= 65 {
		return false
	}
	seen := map[string]int{}
	for _, h := range l {
		seen[h.Entry.Name]++
		if !entry.Right(h.Entry) {
			return false
		}
	}
	names := slices.Sorted(maps.Keys(seen))
	for i, h := range l {
		if len(names) != len(l) || names[i] != h.Entry.Name {
			return false
		}
	}
	return true
}

// textOf is the text of a right state: that of each entry by itself, with its marks behind.
func textOf(l []api.Here) string {
	var texts []string
	for _, h := range l {
		s := stanza.Print([]stanza.Stanza{entry.Write(h.Entry)})
		if h.Auto {
			s += "Auto: yes\n"
		}
		if h.Hold {
			s += "Hold: yes\n"
		}
		texts = append(texts, s)
	}
	if s := strings.Join(texts, "\n"); len(s) <= 60000 {
		return s
	}
	return ""
}

func markOf(st stanza.Stanza, name string) (mark, right bool) {
	for _, f := range st {
		if f.Name == name {
			return f.Value == "yes", f.Value == "yes" || f.Value == "no"
		}
	}
	return false, true
}

func parseOf(s string) ([]api.Here, int, api.Errno) {
	stanzas, line, err := stanza.Parse(s)
	switch {
	case err != api.OK:
		return nil, line, err
	case len(stanzas) >= 65:
		return nil, 0, api.ErrMany
	}
	byName := map[string]api.Here{}
	for i, st := range stanzas {
		e, err := entry.Read(st)
		auto, right := markOf(st, "Auto")
		hold, rightToo := markOf(st, "Hold")
		_, there := byName[e.Name]
		switch {
		case err != api.OK:
			return nil, i + 1, err
		case !right || !rightToo:
			return nil, i + 1, api.ErrForm
		case there:
			return nil, i + 1, api.ErrThere
		}
		byName[e.Name] = api.Here{Entry: e, Auto: auto, Hold: hold}
	}
	var l []api.Here
	for _, name := range slices.Sorted(maps.Keys(byName)) {
		l = append(l, byName[name])
	}
	return l, 0, api.OK
}

func findOf(l []api.Here, name string) (found api.Here, ok bool) {
	for _, h := range slices.Backward(l) {
		if h.Entry.Name == name {
			found, ok = h, true
		}
	}
	return found, ok
}

func withoutOf(l []api.Here, name string) []api.Here {
	return slices.DeleteFunc(slices.Clone(l), func(h api.Here) bool { return h.Entry.Name == name })
}

func withOf(l []api.Here, h api.Here) (out []api.Here) {
	put := false
	for _, x := range l {
		if !put && x.Entry.Name > h.Entry.Name {
			out, put = append(out, h), true
		}
		if x.Entry.Name != h.Entry.Name {
			out = append(out, x)
		}
	}
	if !put {
		out = append(out, h)
	}
	return out
}

func turnedOf(a, b []api.Here) []string {
	set := map[string]int{}
	for _, h := range slices.Concat(a, b) {
		x, inA := findOf(a, h.Entry.Name)
		y, inB := findOf(b, h.Entry.Name)
		if inA != inB || !same(x, y) {
			set[h.Entry.Name]++
		}
	}
	return slices.Sorted(maps.Keys(set))
}

// checkState holds Right and Print of a list against the chapter's words, and Parse of Print with it (Z4).
func checkState(t *testing.T, l []api.Here) bool {
	t.Helper()
	right, want := rightOf(l), ""
	if right {
		want = textOf(l)
	}
	s := state.Print(l)
	if state.Right(l) != right || s != want {
		t.Fatalf("%s is right: %v; %.300q, not %.300q", brief(l), !right, s, want)
	}
	if again, n, err := state.Parse(s); s != "" && (!alike(again, l) || n != 0 || err != api.OK) {
		t.Fatalf("%s %s %d %v", brief(l), brief(again), n, err)
	}
	return right
}

// checkParse holds Parse of a text against parseOf, and that what was read is right.
func checkParse(t *testing.T, s string) api.Errno {
	t.Helper()
	want, wantN, wantErr := parseOf(s)
	l, n, err := state.Parse(s)
	if !alike(l, want) || n != wantN || err != wantErr {
		t.Fatalf("%.300q %s %d %v, not %s %d %v", s, brief(l), n, err, brief(want), wantN, wantErr)
	}
	if err == api.OK && !checkState(t, l) {
		t.Fatalf("%.300q %s is not right", s, brief(l))
	}
	return err
}

// checkTurns holds the calls of a list of any against what is said of them.
func checkTurns(t *testing.T, l []api.Here, h api.Here) {
	t.Helper()
	name := h.Entry.Name
	want, wantOK := findOf(l, name)
	if x, ok := state.Find(l, name); !same(x, want) || ok != wantOK {
		t.Fatalf("Find %s %q %s %v", brief(l), name, brief(x), ok)
	}
	if x := state.Without(l, name); !alike(x, withoutOf(l, name)) {
		t.Fatalf("Without %s %q %s", brief(l), name, brief(x))
	}
	if x := state.With(l, h); !alike(x, withOf(l, h)) {
		t.Fatalf("With %s %s %s", brief(l), brief(h), brief(x))
	}
	x, err := state.Mark(l, name, h.Auto, h.Hold)
	if !wantOK {
		if len(x) != 0 || err != api.ErrNone {
			t.Fatalf("Mark %s %q %s %v", brief(l), name, brief(x), err)
		}
		return
	}
	marked := slices.Clone(l)
	i := slices.IndexFunc(l, func(x api.Here) bool { return x.Entry.Name == name })
	marked[i].Auto, marked[i].Hold = h.Auto, h.Hold
	if !alike(x, marked) || err != api.OK {
		t.Fatalf("Mark %s %s %s %v", brief(l), brief(h), brief(x), err)
	}
}

// rows are all rows of at most n pieces.
func rows[T any](pieces []T, n int) [][]T {
	all, last := [][]T{nil}, [][]T{nil}
	for range n {
		var longer [][]T
		for _, row := range last {
			for _, p := range pieces {
				longer = append(longer, append(slices.Clone(row), p))
			}
		}
		all, last = append(all, longer...), longer
	}
	return all
}

// Z1: of all rows of few things those are right whose names rise, byte by byte, and whose entries are right.
func TestRight(t *testing.T) {
	pieces := []api.Here{plain("ab"), full(), plain("a+"), plain("abc"), plain("a0"), plain("ac"), plain("0d"), plain("A"), here("ad", "x", false, false)}
	counted := map[bool]int{}
	for _, l := range rows(pieces, 4) {
		counted[checkState(t, l)]++
	}
	if counted[true] < 50 || counted[false] < 1000 {
		t.Error(counted)
	}
	for i, c := range []struct {
		names string
		right bool
	}{{"", true}, {"ab", true}, {"ab cd", true}, {"cd ab", false}, {"ab ab", false}, {"ab abc", true}, {"abc ab", false}, {"a9 a10", false}, {"a10 a9", true}, {"a+ a- a. a0 aa", true}, {"0a aa", true}, {"zz zz0", true}, {"aa ab ac ab", false}, {"ab cd cd", false}, {"ab A", false}, {"Ab", false}} {
		var l []api.Here
		for _, name := range strings.Fields(c.names) {
			l = append(l, plain(name))
		}
		if state.Right(l) != c.right || checkState(t, l) != c.right {
			t.Error(i, c.names)
		}
	}
}

// Z1: an entry that is not right makes the state not right, whatever is wrong with it, wherever it stands.
func TestRightEntry(t *testing.T) {
	for i, spoil := range []func(*api.Entry){
		func(e *api.Entry) { e.Name = "n" },
		func(e *api.Entry) { e.Name += "_" },
		func(e *api.Entry) { e.Name += strings.Repeat("x", 40) },
		func(e *api.Entry) { e.Version = "" },
		func(e *api.Entry) { e.Version = "x" },
		func(e *api.Entry) { e.Version = "0:1" },
		func(e *api.Entry) { e.Depends = []api.Group{nil} },
		func(e *api.Entry) { e.Recommends = make([]api.Group, 13) },
		func(e *api.Entry) { e.Conflicts = []api.Atom{{}} },
		func(e *api.Entry) { e.Provides = []api.Atom{atom("cd", api.AtLeast, "1")} },
	} {
		for n := 1; n < 5; n++ {
			for place := range n {
				l := many(n)
				if !checkState(t, l) {
					t.Error(n)
				}
				spoil(&l[place].Entry)
				if checkState(t, l) {
					t.Error(i, n, place)
				}
			}
		}
	}
}

// Z1: 64 things may be there, no more.
func TestRightMany(t *testing.T) {
	for n := range 130 {
		if checkState(t, many(n)) != (n <= 64) {
			t.Error(n)
		}
	}
	for i := range 63 {
		l := many(64)
		l[i], l[i+1] = l[i+1], l[i]
		if checkState(t, l) {
			t.Error(i)
		}
		l[i] = l[i+1]
		if checkState(t, l) {
			t.Error(i)
		}
	}
}

// Z1: the text, letter by letter: the marks come behind all else, Auto first, and no mark is written that is not there.
func TestPrint(t *testing.T) {
	bare := strings.TrimSuffix(fullText, "Auto: yes\nHold: yes\n")
	for i, marks := range []string{"", "Auto: yes\n", "Hold: yes\n", "Auto: yes\nHold: yes\n"} {
		h := full()
		h.Auto, h.Hold = i&1 != 0, i&2 != 0
		if s := state.Print([]api.Here{h}); s != bare+marks {
			t.Errorf("%d %q", i, s)
		}
		for j, more := range []string{"", "Auto: yes\n", "Hold: yes\n", "Auto: yes\nHold: yes\n"} {
			l := []api.Here{here("aa", "1", j&1 != 0, j&2 != 0), h, here("cd", "2", j&2 != 0, j&1 != 0)}
			behind := []string{"", "Hold: yes\n", "Auto: yes\n", "Auto: yes\nHold: yes\n"}[j]
			if s := state.Print(l); s != "Package: aa\nVersion: 1\n"+more+"\n"+bare+marks+"\nPackage: cd\nVersion: 2\n"+behind {
				t.Errorf("%d %d %q", i, j, s)
			}
			checkState(t, l)
		}
	}
	if s := state.Print(nil); s != "" || !state.Right(nil) || !state.Right([]api.Here{}) {
		t.Errorf("%q", s)
	}
}

// Z1: a right state has no text, if that would have more than 60000 bytes; its marks count too.
func TestPrintLong(t *testing.T) {
	for n := 59980; n < 60020; n++ {
		l := long(n)
		s := state.Print(l)
		if n <= 60000 && len(s) != n || n > 60000 && s != "" || !checkState(t, l) {
			t.Error(n, len(s))
		}
		l[3].Auto, l[4].Hold = false, false // 20 bytes
		if s := state.Print(l); len(s) != n-20 || !checkState(t, l) {
			t.Error(n, len(s))
		}
	}
}

// long is a right state whose text has n bytes, or would have them: some 60000.
func long(n int) []api.Here {
	group := slices.Repeat(api.Group{atom(strings.Repeat("a", 40), 0, "")}, 6)
	var l []api.Here
	for i := range 19 {
		h := here("n"+strconv.Itoa(10+i), "1", true, true)
		h.Entry.Depends = slices.Repeat([]api.Group{group}, 12)
		l = append(l, h)
	}
	missing := n - len(textOf(l))
	for i := range l {
		l[i].Entry.Version += strings.Repeat("0", min(missing, 59))
		missing -= min(missing, 59)
	}
	return l
}

const (
	ab1 = "Package: ab\nVersion: 1\n"
	ab2 = "Package: ab\nVersion: 2\n"
	cd1 = "Package: cd\nVersion: 1\n"
)

// Z1: Parse, at what may be taken for something else.
func TestParse(t *testing.T) {
	for s, want := range map[string][]api.Here{
		"":                                   nil,
		"\n\n\n":                             nil,
		ab1:                                  {plain("ab")},
		cd1 + "Auto: yes\n\n" + ab2:          {here("ab", "2", false, false), here("cd", "1", true, false)},
		fullText:                             {full()},
		cd1 + "\n\n\n" + fullText:            {full(), plain("cd")},
		ab1 + "Auto: no\nHold: no":           {plain("ab")},
		ab1 + "Hold: yes\nAuto: no":          {here("ab", "1", false, true)},
		"Hold: yes\n" + ab1:                  {here("ab", "1", false, true)},
		"Hold:   yes\nAuto:yes\n" + ab1:      {here("ab", "1", true, true)},
		ab1 + "auto: x\nAUTO:\nHold-: maybe": {plain("ab")},
		ab1 + "X: y\n z\nAut: x\nAuto-Hold: x\nHol: x\nHolds: x":                         {plain("ab")},
		"Package: b0\nVersion: 1\n\nPackage: b+\nVersion: 1\n\nPackage: b\nVersion: 1\n": nil,
		"Package: b0\nVersion: 1\n\nPackage: b00\nVersion: 1\n\nPackage: b+\nVersion: 1": {plain("b+"), plain("b0"), plain("b00")},
	} {
		l, n, err := state.Parse(s)
		if strings.Contains(s, "Package: b\n") {
			if len(l) != 0 || n != 3 || err != api.ErrName {
				t.Errorf("%q %v %d %v", s, l, n, err)
			}
		} else if !alike(l, want) || n != 0 || err != api.OK {
			t.Errorf("%q %v %d %v", s, l, n, err)
		}
		checkParse(t, s)
	}
}

// Z1: the marks are yes or no, or not there; nothing else, not even nearly so.
func TestParseMarks(t *testing.T) {
	values := map[string]int{
		" yes": 1, " no": 0, "yes": 1, "no": 0, "    no": 0,
		"": -1, " ": -1, " Yes": -1, " YES": -1, " No": -1, " yes ": -1, " no ": -1, " y": -1, " n": -1, " yess": -1, " ye": -1, " noo": -1, " yes,": -1, " yes no": -1,
		" true": -1, " 1": -1, " 0": -1, " maybe": -1, "\n yes": -1, " yes\n no": -1, " no\n  ": -1, " yes\xff": -1, " yes\x7f": -1,
	}
	for auto, a := range values {
		for hold, h := range values {
			for _, s := range []string{ab1 + "Auto:" + auto + "\nHold:" + hold, "Hold:" + hold + "\n" + ab1 + "Auto:" + auto + "\n", cd1 + "Auto: yes\nHold: yes\n\nHold:" + hold + "\nAuto:" + auto + "\n" + ab1} {
				l, n, err := state.Parse(s)
				switch {
				case a < 0 || h < 0:
					if want := strings.Count(s, "Package"); len(l) != 0 || n != want || err != api.ErrForm {
						t.Errorf("%q %v %d %v", s, l, n, err)
					}
				case err != api.OK || !same(l[0], here("ab", "1", a == 1, h == 1)) || len(l) != strings.Count(s, "Package"):
					t.Errorf("%q %v %d %v", s, l, n, err)
				}
				checkParse(t, s)
			}
		}
	}
}

// Z1: of one stanza entry.Read's error comes first, then the marks', then that its name is there; of several the first one's.
func TestParseFirst(t *testing.T) {
	wrong := []struct {
		fields string
		err    api.Errno
	}{
		{"Version: 1\n", api.ErrNone}, {"Package: A\nVersion: 1\n", api.ErrName}, {"Package: ab\nVersion: x\n", api.ErrVersion}, {ab1 + "Depends: cd (\n", api.ErrForm}, {ab1 + "Provides: A\n", api.ErrName},
		{ab1 + "Conflicts: " + strings.Repeat("cd, ", 12) + "cd\n", api.ErrMany}, {ab1, api.OK}, {ab2, api.OK},
	}
	for _, marks := range []string{"", "Auto: maybe\n", "Hold: maybe\n", "Auto:\nHold:\n", "Auto: yes\nHold: x\n"} {
		for _, c := range wrong {
			want := c.err
			if want == api.OK && strings.Trim(marks, "\n") != "" {
				want = api.ErrForm
			}
			for place := 1; place < 64; place += 7 {
				ahead := ab1 + "\n" + strings.ReplaceAll(manyText(place-1), "Auto: yes\n", "")
				if place == 1 {
					ahead = ab1
				}
				s := ahead + "\n" + c.fields + marks + "\nX: behind\n\nPackage: A\n"
				told, wantN := want, place+1
				if told == api.OK {
					told = api.ErrThere
				}
				if l, n, err := state.Parse(s); len(l) != 0 || n != wantN || err != told {
					t.Fatalf("%q %d: %d %v, not %d %v", c.fields+marks, place, n, err, wantN, told)
				}
				checkParse(t, s)
				// What is wrong with a line comes ahead of all, wherever it is.
				if _, n, err := state.Parse(s + "Y"); n != strings.Count(s, "\n")+1 || err != api.ErrForm {
					t.Fatalf("%q %d: %d %v", c.fields+marks, place, n, err)
				}
			}
		}
	}
}

// manyText is the text of as many things.
func manyText(n int) string { return textOf(many(n)) }

// Z1: 64 stanzas are read, no more, whatever is in them; too many come behind what is wrong with a line.
func TestParseMany(t *testing.T) {
	for _, piece := range []string{"X: y\n", ab1, ab1 + "Auto: x\n"} {
		for n := 1; n < 210; n++ {
			s := strings.Repeat(piece+"\n", n)
			want, wantN := api.OK, 1
			switch {
			case n > 200:
				want, wantN = api.ErrMany, 200*(strings.Count(piece, "\n")+1)+1
			case n > 64:
				want, wantN = api.ErrMany, 0
			case piece == "X: y\n":
				want = api.ErrNone
			case piece != ab1:
				want = api.ErrForm
			case n > 1:
				want, wantN = api.ErrThere, 2
			default:
				wantN = 0
			}
			if _, m, err := state.Parse(s); m != wantN || err != want {
				t.Errorf("%q %d: %d %v", piece, n, m, err)
			}
			checkParse(t, s)
		}
	}
	for n := range 80 {
		var texts []string
		for _, h := range many(n) {
			texts = append(texts, textOf([]api.Here{h}))
		}
		slices.Reverse(texts)
		l, m, err := state.Parse(strings.Join(texts, "\n"))
		if n <= 64 && (!alike(l, many(n)) || err != api.OK) || n > 64 && (len(l) != 0 || err != api.ErrMany) || m != 0 {
			t.Error(n, len(l), m, err)
		}
	}
}

// Z1: all rows of few stanzas, right and wrong ones.
func TestParseAll(t *testing.T) {
	pieces := []string{ab1, ab2 + "Auto: yes\n", cd1 + "Hold: yes\n", "Package: ef\nVersion: 1\nAuto: no\n", "Package: aa\nVersion: 1\nHold: yes\nAuto: yes\nDepends: cd\n", ab1 + "Hold: No\n", "Package: A\nVersion: 1\nAuto: x\n", "Auto: yes\n"}
	counted := map[api.Errno]int{}
	for _, row := range rows(pieces, 4) {
		counted[checkParse(t, strings.Join(row, "\n"))]++
	}
	for _, e := range []api.Errno{api.OK, api.ErrNone, api.ErrName, api.ErrForm, api.ErrThere} {
		if counted[e] < 90 {
			t.Error(e, counted[e])
		}
	}
	for _, s := range []string{"X", ":", " ", ab1 + " \n", ab1 + "\x00", ab1 + "\t: x", ab1 + ab1, "Auto", strings.Repeat("x", 60001), ab1 + strings.Repeat("\n", 59999-len(ab1)), ab1 + strings.Repeat("\n", 60000-len(ab1)), ab1 + strings.Repeat("\n", 60001-len(ab1))} {
		want := api.ErrForm
		switch {
		case len(s) > 60000:
			want = api.ErrLong
		case s == ab1+ab1:
			want = api.ErrThere
		case len(s) > 59000:
			want = api.OK
		}
		if err := checkParse(t, s); err != want {
			t.Errorf("%.40q %v", s, err)
		}
	}
}

// Z2: the calls of all rows of few things: right states, and lists of any.
func TestTurns(t *testing.T) {
	pieces := []api.Here{plain("ab"), here("ab", "2", true, false), plain("cd"), here("cd", "2", false, true), plain("ef"), {}}
	asked := []api.Here{plain("aa"), here("ab", "3", true, true), here("abc", "1", true, false), here("cd", "3", false, false), here("ef", "", true, true), here("zz", "x", false, true), here("", "9", true, true), here("\xff", "", false, false)}
	for _, l := range rows(pieces, 4) {
		for _, h := range asked {
			checkTurns(t, l, h)
		}
	}
}

// Z2: by hand, what the rows above are held against.
func TestTurnsByHand(t *testing.T) {
	names := func(l []api.Here) string {
		var s []string
		for _, h := range l {
			s = append(s, h.Entry.Name+h.Entry.Version)
		}
		return strings.Join(s, " ")
	}
	list := func(s string) (l []api.Here) {
		for _, x := range strings.Fields(s) {
			l = append(l, here(x[:2], x[2:], true, false))
		}
		return l
	}
	for i, c := range []struct{ l, h, with, without, found string }{
		{"", "ab1", "ab1", "", ""},
		{"ab1", "ab2", "ab2", "", "ab1"},
		{"ab1 cd1", "ab2", "ab2 cd1", "cd1", "ab1"},
		{"ab1 cd1", "cd2", "ab1 cd2", "ab1", "cd1"},
		{"ab1 cd1", "bc1", "ab1 bc1 cd1", "ab1 cd1", ""},
		{"ab1 cd1", "aa1", "aa1 ab1 cd1", "ab1 cd1", ""},
		{"ab1 cd1", "ef1", "ab1 cd1 ef1", "ab1 cd1", ""},
		{"ab1 ab2 cd1 ab3", "ab4", "ab4 cd1", "cd1", "ab1"},
		{"ef1 ab1 cd1", "cd2", "cd2 ef1 ab1", "ef1 ab1", "cd1"},
		{"ab1 ef1 ab2 zz1 aa1", "cd1", "ab1 cd1 ef1 ab2 zz1 aa1", "ab1 ef1 ab2 zz1 aa1", ""},
		{"cd3 cd1 cd2", "cd4", "cd4", "", "cd3"},
		{"zz1 yy1 xx1", "zz2", "yy1 xx1 zz2", "yy1 xx1", "zz1"},
	} {
		l, h := list(c.l), list(c.h)[0]
		found, ok := state.Find(l, h.Entry.Name)
		if s := names(state.With(l, h)); s != c.with {
			t.Error(i, "With", s)
		}
		if s := names(state.Without(l, h.Entry.Name)); s != c.without {
			t.Error(i, "Without", s)
		}
		if ok != (c.found != "") || ok && (names([]api.Here{found}) != c.found || !found.Auto || found.Hold) || !ok && !reflect.DeepEqual(found, api.Here{}) {
			t.Error(i, "Find", found, ok)
		}
		m, err := state.Mark(l, h.Entry.Name, false, true)
		if ok != (err == api.OK) || !ok && (len(m) != 0 || err != api.ErrNone) || ok && names(m) != c.l {
			t.Error(i, "Mark", m, err)
		}
		for j, x := range m { // the first of that name alone
			first := slices.IndexFunc(m, func(x api.Here) bool { return x.Entry.Name == h.Entry.Name })
			if x.Auto != (j != first) || x.Hold != (j == first) {
				t.Error(i, "Mark", m)
			}
		}
	}
	for i := range 16 {
		was, marks := here("ab", "1", i&1 != 0, i&2 != 0), here("ab", "1", i&4 != 0, i&8 != 0)
		m, err := state.Mark([]api.Here{was}, "ab", marks.Auto, marks.Hold)
		if !alike(m, []api.Here{marks}) || err != api.OK {
			t.Error(i, m, err)
		}
	}
}

// Z3: Turned of all pairs of rows of few things, from either side.
func TestTurned(t *testing.T) {
	pieces := []api.Here{plain("ab"), here("ab", "2", false, false), here("cd", "1", true, false), here("cd", "1", false, true), {}}
	all := rows(pieces, 3)
	counted := map[int]int{}
	for _, a := range all {
		for _, b := range all {
			want := turnedOf(a, b)
			if l := state.Turned(a, b); !slices.Equal(l, want) {
				t.Fatal(a, b, l, want)
			}
			counted[len(want)]++
		}
	}
	if counted[0] < 200 || counted[3] < 200 {
		t.Error(counted)
	}
}

// Z3: of long lists too it is the first of a name that counts, wherever the others stand.
func TestTurnedFirst(t *testing.T) {
	for n := 0; n < 200; n += 13 {
		for names := 1; names < 6; names++ {
			var a []api.Here
			for i := range n {
				a = append(a, here("n"+strconv.Itoa(i*7%names), strconv.Itoa(i), false, false))
			}
			b := slices.Clone(a)
			slices.Reverse(b[n/2:])
			var firsts []api.Here
			for i := range min(n, names) {
				firsts = append(firsts, a[i])
			}
			for _, x := range [][]api.Here{b, firsts, b[n/2:], append(slices.Clone(firsts), b...)} {
				want := turnedOf(a, x)
				if l := state.Turned(a, x); !slices.Equal(l, want) || !slices.Equal(state.Turned(x, a), want) {
					t.Fatal(n, names, l, want)
				}
			}
		}
	}
}

// Z3: by hand: what of a thing is another thing, and what is not.
func TestTurnedByHand(t *testing.T) {
	ab, cd := plain("ab"), plain("cd")
	for i, c := range []struct {
		a, b []api.Here
		want string
	}{
		{nil, nil, ""},
		{[]api.Here{ab}, []api.Here{ab}, ""},
		{[]api.Here{ab}, nil, "ab"},
		{[]api.Here{cd, ab}, nil, "ab cd"},
		{[]api.Here{cd, ab}, []api.Here{ab, cd}, ""},
		{[]api.Here{ab, cd}, []api.Here{plain("aa"), plain("bc"), plain("zz")}, "aa ab bc cd zz"},
		{[]api.Here{ab, here("ab", "2", true, true)}, []api.Here{ab}, ""}, // Find tells the first one alone
		{[]api.Here{here("ab", "2", true, true), ab}, []api.Here{ab, here("ab", "2", true, true)}, "ab"},
		{[]api.Here{ab, ab, ab}, []api.Here{cd, cd}, "ab cd"},
		{[]api.Here{ab}, []api.Here{here("ab", "1-0", false, false)}, "ab"}, // one in its order, but another text
		{[]api.Here{ab}, []api.Here{here("ab", "1", true, false)}, "ab"},
		{[]api.Here{ab}, []api.Here{here("ab", "1", false, true)}, "ab"},
		{[]api.Here{here("ab", "1", true, false)}, []api.Here{here("ab", "1", false, true)}, "ab"},
		{[]api.Here{here("\xff", "", false, false), here("é", "", false, false), {}, here("a", "", false, false)}, nil, " a é \xff"},
		{[]api.Here{plain("a10"), plain("a9"), plain("a+"), plain("a")}, nil, "a a+ a10 a9"},
	} {
		if s := strings.Join(state.Turned(c.a, c.b), " "); s != c.want {
			t.Errorf("%d %q", i, s)
		}
		if s := strings.Join(state.Turned(c.b, c.a), " "); s != c.want {
			t.Errorf("%d %q", i, s)
		}
		if len(state.Turned(c.a, c.a)) != 0 || len(state.Turned(c.b, c.b)) != 0 {
			t.Error(i)
		}
	}
}

// Z3: each field is held against the other one's, down to the last atom; lists of nothing are the same (P5).
func TestTurnedFields(t *testing.T) {
	groups := func(change func([]api.Group) []api.Group) []func(*api.Entry) {
		return []func(*api.Entry){
			func(e *api.Entry) { e.Depends = change(e.Depends) },
			func(e *api.Entry) { e.Recommends = change(e.Recommends) },
		}
	}
	atoms := func(change func([]api.Atom) []api.Atom) []func(*api.Entry) {
		return append(groups(func(l []api.Group) []api.Group {
			l[len(l)-1] = change(l[len(l)-1])
			return l
		}), func(e *api.Entry) { e.Conflicts = change(e.Conflicts) }, func(e *api.Entry) { e.Provides = change(e.Provides) })
	}
	changes := slices.Concat(
		[]func(*api.Entry){func(e *api.Entry) { e.Version = "1:2-30" }, func(e *api.Entry) { e.Version = "" }},
		groups(func(l []api.Group) []api.Group { return nil }),
		groups(func(l []api.Group) []api.Group { return append(l, nil) }),
		groups(func(l []api.Group) []api.Group { return append([]api.Group{{}}, l...) }),
		groups(func(l []api.Group) []api.Group { return append(l, l[0]) }),
		atoms(func(l []api.Atom) []api.Atom { return nil }),
		atoms(func(l []api.Atom) []api.Atom { return append(l, atom("", 0, "")) }),
		atoms(func(l []api.Atom) []api.Atom { return append(l, l[len(l)-1]) }),
		atoms(func(l []api.Atom) []api.Atom { l[len(l)-1].Name += "x"; return l }),
		atoms(func(l []api.Atom) []api.Atom { l[len(l)-1].Op++; return l }),
		atoms(func(l []api.Atom) []api.Atom { l[len(l)-1].Version += "0"; return l }),
		atoms(func(l []api.Atom) []api.Atom { l[0] = atom("zz", 3, "9"); return l }),
	)
	for i, change := range changes {
		a, b := full(), full()
		if len(state.Turned([]api.Here{a}, []api.Here{b})) != 0 {
			t.Error(i)
		}
		change(&b.Entry)
		for n := range 3 {
			l, m := append([]api.Here{plain("aa"), plain("cd")}[:n], a), append([]api.Here{plain("aa"), plain("cd")}[:n], b)
			if x := state.Turned(l, m); !slices.Equal(x, []string{"ab"}) || !slices.Equal(state.Turned(m, l), x) {
				t.Error(i, x)
			}
		}
	}
	none, empty := plain("ab"), plain("ab")
	empty.Entry.Depends, empty.Entry.Recommends, empty.Entry.Conflicts, empty.Entry.Provides = []api.Group{}, []api.Group{}, []api.Atom{}, []api.Atom{}
	if l := state.Turned([]api.Here{none}, []api.Here{empty}); len(l) != 0 {
		t.Error(l)
	}
	none.Entry.Depends, empty.Entry.Depends = []api.Group{nil}, []api.Group{{}}
	if l := state.Turned([]api.Here{empty}, []api.Here{none}); len(l) != 0 {
		t.Error(l)
	}
	// The same atoms in other groups are another field.
	none.Entry.Depends, empty.Entry.Depends = []api.Group{{atom("cd", 0, ""), atom("ef", 0, "")}}, []api.Group{{atom("cd", 0, "")}, {atom("ef", 0, "")}}
	if l := state.Turned([]api.Here{empty}, []api.Here{none}); !slices.Equal(l, []string{"ab"}) {
		t.Error(l)
	}
}

// Z4: With and Without of a right state are right, with 64 things in it too; a 65th has no room.
func TestStayRight(t *testing.T) {
	names := []string{"0a", "aa", "n1000", "n1010", "n1010x", "n1063", "n1064", "zz"}
	for n := range 66 {
		for _, name := range names {
			l := many(n)
			h := full()
			h.Entry.Name = name
			_, there := findOf(l, name)
			with, without := state.With(l, h), state.Without(l, name)
			if n <= 64 && !checkState(t, without) || checkState(t, with) != (n < 64 || n == 64 && there) {
				t.Error(n, name)
			}
			if x, ok := state.Find(with, name); !ok || !same(x, h) {
				t.Error(n, name, x)
			}
			if _, ok := state.Find(without, name); ok {
				t.Error(n, name)
			}
			if there {
				m, err := state.Mark(l, name, true, true)
				if checkState(t, m) != (n <= 64) || err != api.OK {
					t.Error(n, name, err)
				}
			} else if n <= 64 && !slices.Equal(state.Turned(l, with), []string{name}) {
				t.Error(n, name)
			}
		}
	}
	// One by one, in any order: what comes is the same.
	var l []api.Here
	for i := range 64 {
		l = state.With(l, many(64)[i*37%64])
		checkState(t, l)
	}
	if !alike(l, many(64)) {
		t.Error(l)
	}
}

// P1: texts and lists that are long, and lists that no state is.
func TestLong(t *testing.T) {
	huge := strings.Repeat("a", 1<<22)
	long := many(1 << 16)
	slices.Reverse(long)
	if checkState(t, long) || state.Print(long) != "" {
		t.Error("right")
	}
	checkTurns(t, long, here("n1000", "2", true, true))
	checkTurns(t, long, here("m", "2", true, true))
	checkTurns(t, slices.Repeat([]api.Here{plain("ab")}, 1<<16), here("ab", "2", true, true))
	checkTurns(t, []api.Here{plain("ab")}, here(huge, huge, true, true))
	names := make([]string, len(long))
	for i, h := range long {
		names[i] = h.Entry.Name
	}
	sort.Strings(names)
	if l := state.Turned(long, nil); !slices.Equal(l, names) {
		t.Error(len(l))
	}
	if l := state.Turned(long, many(1<<16)); len(l) != 0 {
		t.Error(len(l))
	}
	other := slices.Clone(long)
	for i := range other {
		other[i].Hold = !other[i].Hold
	}
	if l := state.Turned(long, other); !slices.Equal(l, names) {
		t.Error(len(l))
	}
	for _, piece := range []string{ab1, ab1 + "\n", "X: y\n\n", "a", "\n", "Auto: yes\n", "Auto: yes\n\n", "\x00"} {
		checkParse(t, strings.Repeat(piece, 1<<14))
		checkParse(t, strings.Repeat(piece, 60000/len(piece)))
	}
	if err := checkParse(t, huge); err != api.ErrLong {
		t.Error(err)
	}
	for _, h := range []api.Here{here(huge, "1", false, false), here("ab", "1"+huge, true, true)} {
		if checkState(t, []api.Here{h}) {
			t.Error("right")
		}
	}
}

// P3: nothing that is handed in is written into, and what lies behind a list's length is not read.
func TestHandedIn(t *testing.T) {
	for n := range 6 {
		whole := append(many(n), plain("zz"), plain("aa"), full(), here("aa", "9", true, true))
		want := slices.Clone(whole)
		l := whole[:n]
		b := append(many(3), plain("yy"))
		wantB := slices.Clone(b)
		for _, name := range []string{"aa", "n1000", "n1002", "zz", "zzz"} {
			if n < 2 || name != "n1002" {
				checkTurns(t, l, here(name, "2", true, true))
			}
			if _, ok := state.Find(l, name); ok && strings.Trim(name, "az") == "" {
				t.Error(n, name)
			}
		}
		if got := state.Turned(l, b[:3]); !slices.Equal(got, turnedOf(many(n), many(3))) {
			t.Error(n, got)
		}
		checkState(t, l)
		x, y := slices.Clone(whole[:n]), slices.Clone(b[:3])
		slices.Reverse(x)
		slices.Reverse(y)
		xs, ys := slices.Clone(x), slices.Clone(y)
		state.Turned(x, y)
		if !reflect.DeepEqual(whole, want) || !reflect.DeepEqual(b, wantB) || !reflect.DeepEqual(x, xs) || !reflect.DeepEqual(y, ys) {
			t.Error(n, whole, b)
		}
	}
	h := full()
	l := []api.Here{h, plain("cd")}
	state.Print(l)
	state.Mark(l, "ab", false, false)
	state.With(l, h)
	state.Turned(l, []api.Here{full()})
	if !reflect.DeepEqual(l, []api.Here{full(), plain("cd")}) {
		t.Error(l)
	}
}

// P3: what is answered is new: no change of one list shows in what was handed in, or in another answer.
func TestAnswered(t *testing.T) {
	for n := range 6 {
		l := append(many(n), plain("behind"))[:n]
		for i, call := range []func() []api.Here{
			func() []api.Here { return state.Without(l, "zz") },
			func() []api.Here { return state.Without(l, "n1000") },
			func() []api.Here { return state.With(l, plain("zz")) },
			func() []api.Here { return state.With(l, plain("aa")) },
			func() []api.Here { return state.With(l, plain("n1001")) },
			func() []api.Here { x, _ := state.Mark(l, "n1000", false, true); return x },
			func() []api.Here { x, _, _ := state.Parse(manyText(n)); return x },
		} {
			a, b, want := call(), call(), call()
			a = append(a, plain("more"), plain("more"))
			for j := range a {
				a[j] = plain("changed")
			}
			if !alike(b, want) || !alike(l, many(n)) || l[:n+1][n].Entry.Name != "behind" {
				t.Error(n, i, b, l)
			}
		}
		a, b := state.Turned(l, nil), state.Turned(l, nil)
		for i := range a {
			a[i] = "changed"
		}
		if !slices.Equal(b, turnedOf(many(n), nil)) || !alike(l, many(n)) {
			t.Error(n, b)
		}
	}
	// Of two things that are read neither shares a list with the other one.
	s := fullText + "\n" + strings.Replace(fullText, "Package: ab", "Package: cd", 1)
	l, _, _ := state.Parse(s)
	want, _, _ := state.Parse(s)
	for _, x := range [][]api.Atom{l[0].Entry.Conflicts, l[0].Entry.Provides, l[0].Entry.Depends[0], l[0].Entry.Depends[1], l[0].Entry.Recommends[0]} {
		_ = append(x, atom("behind", 0, ""), atom("behind", 0, ""))
		for i := range x {
			x[i] = atom("changed", 0, "")
		}
	}
	if again, _, _ := state.Parse(s); !reflect.DeepEqual(l[1], want[1]) || !reflect.DeepEqual(again, want) {
		t.Error(l[1], again)
	}
}

// P4: the same call answers the same, whatever came between.
func TestTwice(t *testing.T) {
	texts := []string{"", ab1, fullText, ab1 + "\n" + ab1, "X: y", "X", fullText + "\n" + cd1, strings.Repeat("X: y\n\n", 65), ab1 + "Auto: x", manyText(64), cd1 + "\n" + ab1}
	type answer struct {
		l      []api.Here
		n      int
		err    api.Errno
		text   string
		turned []string
	}
	var first []answer
	for round := range 3 {
		for i, s := range texts {
			l, n, err := state.Parse(s)
			a := answer{l, n, err, state.Print(l), state.Turned(many(40), l)}
			if round == 0 {
				first = append(first, a)
			}
			if !reflect.DeepEqual(first[i], a) {
				t.Errorf("%.20q %v", s, a)
			}
		}
	}
}
