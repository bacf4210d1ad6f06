package entry_test

import (
	"fmt"
	"math"
	"reflect"
	"regexp"
	"slices"
	"strconv"
	"strings"
	"testing"

	"keelson/api"
	"keelson/depends"
	"keelson/entry"
	"keelson/relation"
	"keelson/stanza"
	"keelson/version"
)

func f(name, value string) api.Field { return api.Field{Name: name, Value: value} }

func atom(name string, op int, v string) api.Atom {
	return api.Atom{Name: name, Op: op, Version: v}
}

func plain(name, v string) api.Entry { return api.Entry{Name: name, Version: v} }

// atoms has n atoms of different names; those at even places give a version.
func atoms(n int) []api.Atom {
	l := []api.Atom{}
	for i := range n {
		a := api.Atom{Name: "n" + strconv.Itoa(i)}
		if i%2 == 0 {
			a.Op, a.Version = api.Equal, "1."+strconv.Itoa(i)
		}
		l = append(l, a)
	}
	return l
}

// groups has n groups of so many atoms.
func groups(n, size int) []api.Group {
	l := []api.Group{}
	for range n {
		l = append(l, api.Group(atoms(size)))
	}
	return l
}

// full is an entry that has something of everything.
func full() api.Entry {
	return api.Entry{
		Name: "ab", Version: "1:2-3",
		Depends:    []api.Group{{atom("cd", 0, ""), atom("ef", api.AtLeast, "1")}, {atom("gh", 0, "")}},
		Recommends: []api.Group{{atom("ij", 0, "")}},
		Conflicts:  []api.Atom{atom("kl", api.Less, "2"), atom("mn", 0, "")},
		Provides:   []api.Atom{atom("op", 0, ""), atom("qr", api.Equal, "7")},
	}
}

const fullText = "Package: ab\nVersion: 1:2-3\nDepends: cd | ef (>= 1), gh\nRecommends: ij\nConflicts: kl (<< 2), mn\nProvides: op, qr (= 7)\n"

// The pieces that entries are put together of: what is right of each, and what is not.
func rightNames() []string {
	return []string{"ab", "a0", "0ad", "g++", "lib-x.y", "a-", strings.Repeat("a", 40)}
}

func wrongNames() []string {
	return []string{"", "a", "A", "Ab", "aB", "-a", "+a", ".a", "a_b", "a b", " ab", "ab ", "ab\n", "\nab", "ab,cd", "ab|cd", "ab (= 1)", "é1", "\xff\xff", strings.Repeat("a", 41)}
}

func rightVersions() []string {
	return []string{"1", "0", "007", "1:2-3", "2-1-3", "1:0:1", "1~", "1.0+x~rc1", "999999999:1", strings.Repeat("9", 60)}
}

func wrongVersions() []string {
	return []string{"", "x", "0:1", "00:1", "01:1", "2-", "-1", ":1", "1 ", " 1", "1\n", "1_", "1000000000:1", "1:", "é", strings.Repeat("9", 61)}
}

func rightGroups() [][]api.Group {
	return [][]api.Group{nil, {}, groups(1, 1), groups(1, 6), groups(12, 1), groups(12, 6), {{atom("ab", api.More, "1:2-3~")}}, {{atom("ab", 0, ""), atom("ab", 0, "")}, {atom("ab", 0, "")}}}
}

func wrongGroups() [][]api.Group {
	return [][]api.Group{{nil}, {{}}, {{atom("ab", 0, "")}, nil}, groups(13, 1), groups(1, 7), append(groups(11, 6), groups(1, 7)...), {{{}}}, {{atom("A", 0, "")}}, {{atom("ab", 0, ""), atom("ab", 0, "1")}}, {{atom("ab", 3, "x")}}, {{atom("ab", 6, "1")}}, {{atom("ab", 3, "0:1")}}}
}

// rightGiven are right in Conflicts and in Provides.
func rightGiven() [][]api.Atom {
	return [][]api.Atom{nil, {}, atoms(1), atoms(8), {atom("ab", 0, "")}, {atom("ab", 3, "1"), atom("ab", 3, "1")}, {atom("ab", 3, "1:2-3~"), atom("cd", 0, "")}}
}

// rightBarred are right in Conflicts alone.
func rightBarred() [][]api.Atom {
	return [][]api.Atom{atoms(9), atoms(12), {atom("ab", 1, "1")}, {atom("ab", 2, "1")}, {atom("ab", 4, "1")}, {atom("ab", 5, "1")}, {atom("ab", 0, ""), atom("cd", 3, "1"), atom("ef", 4, "1")}}
}

// wrongAtoms are right in neither.
func wrongAtoms() [][]api.Atom {
	return [][]api.Atom{atoms(13), {{}}, {atom("A", 0, "")}, {atom("ab", 0, "1")}, {atom("ab", 3, "")}, {atom("ab", 3, "x")}, {atom("ab", 3, "0:1")}, {atom("ab", 6, "1")}, {atom("ab", -1, "1")}, {atom("ab", math.MaxInt, "1")}, {atom("ab", math.MinInt, "")}, append(atoms(3), atom("ab ", 0, "")), append([]api.Atom{{}}, atoms(3)...)}
}

var nameForm = regexp.MustCompile(`^[a-z0-9][a-z0-9+.-]{1,39}$`)

func isVersion(s string) bool {
	v, err := version.Parse(s)
	return err == api.OK && version.Right(v) && version.Print(v) == s
}

// readOf is Read as the chapter says it, said once more: all that is asked, in the order in which it is told.
func readOf(st stanza.Stanza) (api.Entry, api.Errno) {
	values := map[string]string{}
	for _, x := range slices.Backward(st) {
		values[x.Name] = x.Value
	}
	var errs []api.Errno
	told := func(wrong bool, e api.Errno) {
		if wrong {
			errs = append(errs, e)
		}
	}
	name, named := values["Package"]
	v, versioned := values["Version"]
	told(!named, api.ErrNone)
	told(!versioned, api.ErrNone)
	told(!nameForm.MatchString(name), api.ErrName)
	told(!isVersion(v), api.ErrVersion)
	needs, e1 := depends.Parse(values["Depends"])
	likes, e2 := depends.Parse(values["Recommends"])
	bars, e3 := depends.Atoms(values["Conflicts"])
	gives, e4 := depends.Atoms(values["Provides"])
	for _, e := range []api.Errno{e1, e2, e3, e4} {
		told(e != api.OK, e)
	}
	told(len(gives) > 8, api.ErrMany)
	for _, a := range gives {
		told(a.Op != api.Any && a.Op != api.Equal, api.ErrForm)
	}
	if len(errs) > 0 {
		return api.Entry{}, errs[0]
	}
	return api.Entry{Name: name, Version: v, Depends: needs, Recommends: likes, Conflicts: bars, Provides: gives}, api.OK
}

// indexOf is Index, said once more.
func indexOf(s string) ([]api.Entry, int, api.Errno) {
	stanzas, line, err := stanza.Parse(s)
	if err != api.OK {
		return nil, line, err
	}
	if len(stanzas) >= 65 {
		return nil, 0, api.ErrMany
	}
	var l []api.Entry
	seen := map[[2]string]int{}
	for _, st := range stanzas {
		e, err := readOf(st)
		l = append(l, e)
		if err != api.OK {
			return nil, len(l), err
		}
		seen[[2]string{e.Name, e.Version}]++
		if len(seen) < len(l) {
			return nil, len(l), api.ErrThere
		}
	}
	return l, 0, api.OK
}

// stanzaOf is the chapter's stanza of a right entry, put together by hand.
func stanzaOf(e api.Entry) stanza.Stanza {
	st := stanza.Stanza{f("Package", e.Name), f("Version", e.Version)}
	fields := func(name string, l []api.Group) {
		s := ""
		for i, g := range l {
			for j, a := range g {
				if j > 0 {
					s += " | "
				} else if i > 0 {
					s += ", "
				}
				s += relation.Print(a)
			}
		}
		if s != "" {
			st = append(st, f(name, s))
		}
	}
	fields("Depends", e.Depends)
	fields("Recommends", e.Recommends)
	single := func(l []api.Atom) (out []api.Group) {
		for _, a := range l {
			out = append(out, api.Group{a})
		}
		return out
	}
	fields("Conflicts", single(e.Conflicts))
	fields("Provides", single(e.Provides))
	return st
}

func sameGroups(a, b []api.Group) bool {
	return slices.EqualFunc(a, b, func(g, h api.Group) bool { return slices.Equal(g, h) })
}

// same holds entries against one another: of a list of nothing it does not ask whether it is nil.
func same(a, b api.Entry) bool {
	return a.Name == b.Name && a.Version == b.Version && sameGroups(a.Depends, b.Depends) && sameGroups(a.Recommends, b.Recommends) &&
		slices.Equal(a.Conflicts, b.Conflicts) && slices.Equal(a.Provides, b.Provides)
}

func alike(a, b []api.Entry) bool { return slices.EqualFunc(a, b, same) }

// brief is what is told of x, if that is not long.
func brief(x any) string { return fmt.Sprintf("%.300s", fmt.Sprintf("%q", x)) }

// checkRight holds Right, Write and Print of one entry against what is known of it, and Read of Write with it (E4).
func checkRight(t *testing.T, e api.Entry, right bool) {
	t.Helper()
	st := entry.Write(e)
	if entry.Right(e) != right {
		t.Fatalf("%s is right: %v", brief(e), !right)
	}
	if !right {
		if len(st) != 0 || entry.Print([]api.Entry{e}) != "" {
			t.Fatalf("%s %s", brief(e), brief(st))
		}
		return
	}
	if want := stanzaOf(e); !slices.Equal(st, want) || !stanza.Right([]stanza.Stanza{st}) {
		t.Fatalf("%s, not %s", brief(st), brief(want))
	}
	if again, err := entry.Read(st); !same(again, e) || err != api.OK {
		t.Fatalf("%s %s %v", brief(e), brief(again), err)
	}
	if l, n, err := entry.Index(entry.Print([]api.Entry{e})); !alike(l, []api.Entry{e}) || n != 0 || err != api.OK {
		t.Fatalf("%s %s %d %v", brief(e), brief(l), n, err)
	}
}

// checkRead holds Read of one stanza against readOf, and that what was read is right.
func checkRead(t *testing.T, st stanza.Stanza) api.Errno {
	t.Helper()
	want, wantErr := readOf(st)
	e, err := entry.Read(st)
	if !same(e, want) || err != wantErr {
		t.Fatalf("%s %s %v, not %s %v", brief(st), brief(e), err, brief(want), wantErr)
	}
	if err == api.OK {
		checkRight(t, e, true)
	}
	return err
}

// checkIndex holds Index of one text against indexOf, and Print of what was read with it (E4).
func checkIndex(t *testing.T, s string) api.Errno {
	t.Helper()
	want, wantN, wantErr := indexOf(s)
	l, n, err := entry.Index(s)
	if !alike(l, want) || n != wantN || err != wantErr {
		t.Fatalf("%.300q %s %d %v, not %s %d %v", s, brief(l), n, err, brief(want), wantN, wantErr)
	}
	if text := entry.Print(l); text != "" {
		if again, n, err := entry.Index(text); !alike(again, l) || n != 0 || err != api.OK {
			t.Fatalf("%.300q %s %d %v", text, brief(again), n, err)
		}
	}
	return err
}

// E1: each piece of an entry makes it right or not, by itself.
func TestRight(t *testing.T) {
	checkRight(t, api.Entry{}, false)
	checkRight(t, plain("ab", "1"), true)
	for _, right := range []bool{true, false} {
		names, versions, fields, lists := rightNames(), rightVersions(), rightGroups(), rightGiven()
		if !right {
			names, versions, fields, lists = wrongNames(), wrongVersions(), wrongGroups(), wrongAtoms()
		}
		for _, base := range []api.Entry{plain("ab", "1"), full()} {
			look := func(change func(*api.Entry)) {
				e := base
				change(&e)
				checkRight(t, e, right)
			}
			for _, s := range names {
				look(func(e *api.Entry) { e.Name = s })
			}
			for _, s := range versions {
				look(func(e *api.Entry) { e.Version = s })
			}
			for _, l := range fields {
				look(func(e *api.Entry) { e.Depends = l })
				look(func(e *api.Entry) { e.Recommends = l })
			}
			for _, l := range lists {
				look(func(e *api.Entry) { e.Conflicts = l })
				look(func(e *api.Entry) { e.Provides = l })
			}
		}
	}
}

// E1: Conflicts may have 12 atoms of all operators, Provides 8, and of two operators alone.
func TestRightGiven(t *testing.T) {
	for n := range 30 {
		e := full()
		e.Conflicts = atoms(n)
		checkRight(t, e, n <= 12)
		e = full()
		e.Provides = atoms(n)
		checkRight(t, e, n <= 8)
	}
	for _, l := range rightBarred() {
		e := full()
		e.Conflicts = l
		checkRight(t, e, true)
		e = full()
		e.Provides = l
		checkRight(t, e, false)
	}
	for op := -2; op < 9; op++ {
		for place := range 8 {
			v := "1"
			if op == api.Any {
				v = ""
			}
			e := full()
			e.Provides = atoms(8)
			e.Provides[place] = atom("ab", op, v)
			checkRight(t, e, op == api.Any || op == api.Equal)
			e = full()
			e.Conflicts = atoms(12)
			e.Conflicts[place+4] = atom("ab", op, v)
			checkRight(t, e, 0 <= op && op <= 5)
		}
	}
	// An entry may need, give and fight itself.
	self := []api.Atom{atom("ab", api.Equal, "1")}
	checkRight(t, api.Entry{Name: "ab", Version: "1", Depends: []api.Group{self}, Recommends: []api.Group{self}, Conflicts: self, Provides: self}, true)
}

// E1: Write, letter by letter, with each choice of the fields that may be missing.
func TestWrite(t *testing.T) {
	if s := stanza.Print([]stanza.Stanza{entry.Write(full())}); s != fullText {
		t.Errorf("%q", s)
	}
	lines := strings.SplitAfter(fullText, "\n")
	for i := range 16 {
		e, want := plain("ab", "1:2-3"), lines[0]+lines[1]
		if i&1 != 0 {
			e.Depends, want = full().Depends, want+lines[2]
		}
		if i&2 != 0 {
			e.Recommends, want = full().Recommends, want+lines[3]
		}
		if i&4 != 0 {
			e.Conflicts, want = full().Conflicts, want+lines[4]
		}
		if i&8 != 0 {
			e.Provides, want = full().Provides, want+lines[5]
		}
		if s := stanza.Print([]stanza.Stanza{entry.Write(e)}); s != want {
			t.Errorf("%d %q", i, s)
		}
		checkRight(t, e, true)
	}
}

// E1: Read, at what may be taken for something else.
func TestRead(t *testing.T) {
	ab := plain("ab", "1")
	cd := []api.Atom{atom("cd", 0, "")}
	for i, c := range []struct {
		st   stanza.Stanza
		want api.Entry
	}{
		{stanza.Stanza{f("Package", "ab"), f("Version", "1"), f("Depends", "cd"), f("X", "y")}, api.Entry{Name: "ab", Version: "1", Depends: []api.Group{cd}}},
		{stanza.Stanza{f("Package", "ab"), f("Version", "1")}, ab},
		{stanza.Stanza{f("Version", "1"), f("Package", "ab")}, ab},
		{stanza.Stanza{f("Provides", "cd"), f("X", "\x00"), f("Version", "1"), f("Conflicts", "cd"), f("", ""), f("Package", "ab"), f("Recommends", "cd")}, api.Entry{Name: "ab", Version: "1", Recommends: []api.Group{cd}, Conflicts: cd, Provides: cd}},
		{stanza.Stanza{f("Package", "ab"), f("Version", "1"), f("Depends", ""), f("Recommends", ""), f("Conflicts", ""), f("Provides", "")}, ab},
		{stanza.Stanza{f("Package", "ab"), f("Version", "1"), f("depends", "A"), f("DEPENDS", "A"), f("Depends-", "A"), f("Depend", "A"), f(" Depends", "A")}, ab},
		{stanza.Stanza{f("package", "cd"), f("version", "2"), f("Package", "ab"), f("Version", "1")}, ab},
		{stanza.Stanza{f("Package", "ab"), f("Package", "A"), f("Version", "1"), f("Version", "x"), f("Depends", "cd"), f("Depends", "A")}, api.Entry{Name: "ab", Version: "1", Depends: []api.Group{cd}}},
		{stanza.Stanza{f("Package", "ab"), f("Version", "1"), f("Depends", " cd|ef ,gh ")}, api.Entry{Name: "ab", Version: "1", Depends: []api.Group{{atom("cd", 0, ""), atom("ef", 0, "")}, {atom("gh", 0, "")}}}},
		{stanza.Stanza{f("Package", "ab"), f("Version", "1"), f("Conflicts", "cd,cd (<< 2)"), f("Provides", "cd , ef (= 1)")}, api.Entry{Name: "ab", Version: "1", Conflicts: []api.Atom{cd[0], atom("cd", 1, "2")}, Provides: []api.Atom{cd[0], atom("ef", 3, "1")}}},
	} {
		if e, err := entry.Read(c.st); !same(e, c.want) || err != api.OK {
			t.Error(i, e, err)
		}
		checkRead(t, c.st)
	}
	for i, st := range []stanza.Stanza{
		nil,
		{},
		{f("Package", "ab")},
		{f("Version", "1")},
		{f("Package", "A")},
		{f("Version", "x")},
		{f("Package", "ab"), f("version", "1")},
		{f("package", "ab"), f("Version", "1")},
		{f("Package", "A"), f("Depends", "A")},
		{f("Depends", "A"), f("Version", "x"), f("", "ab")},
	} {
		if e, err := entry.Read(st); !same(e, api.Entry{}) || err != api.ErrNone {
			t.Error(i, e, err)
		}
		checkRead(t, st)
	}
}

// E1: names and versions are read as they stand; an empty one is there all the same.
func TestReadNames(t *testing.T) {
	for _, name := range slices.Concat(rightNames(), wrongNames()) {
		for _, v := range slices.Concat(rightVersions(), wrongVersions()) {
			want := api.OK
			switch {
			case slices.Contains(wrongNames(), name):
				want = api.ErrName
			case slices.Contains(wrongVersions(), v):
				want = api.ErrVersion
			}
			if err := checkRead(t, stanza.Stanza{f("Package", name), f("Version", v)}); err != want {
				t.Errorf("%q %q %v", name, v, err)
			}
			if err := checkRead(t, stanza.Stanza{f("Version", v), f("Package", name), f("Depends", ",")}); want != api.OK && err != want || want == api.OK && err != api.ErrName {
				t.Errorf("%q %q %v", name, v, err)
			}
		}
	}
}

// values are those of a field, by the error that one with it has in any field of atoms.
func values() map[string]api.Errno {
	return map[string]api.Errno{
		"":                                  api.OK,
		"cd, ef (= 1)":                      api.OK,
		"A":                                 api.ErrName,
		"cd (= 0:1)":                        api.ErrVersion,
		"cd (=1)":                           api.ErrForm,
		strings.Repeat("cd,", 12) + "cd":    api.ErrMany,
		strings.Repeat("cd | ", 6) + "cd":   api.ErrMany,
		strings.Repeat("A,", 12) + "A":      api.ErrMany,
		"cd,\n ef":                          api.ErrName,
		" ":                                 api.ErrName,
		"cd, ef (= 1":                       api.ErrForm,
		"cd, ":                              api.ErrName,
		"ef (>= 1:1-1), gh (<< \xff), A":    api.ErrVersion,
		strings.Repeat("cd, ", 7) + "ef (x": api.ErrForm,
	}
}

// E1: of the four fields the first error is told, in the chapter's order, wherever they stand.
func TestReadFirst(t *testing.T) {
	names := []string{"Depends", "Recommends", "Conflicts", "Provides"}
	for i, first := range names {
		for v, want := range values() {
			for _, later := range names[i:] {
				for w, wantLater := range values() {
					st := stanza.Stanza{f("Package", "ab"), f("Version", "1"), f(first, v), f(later, w)}
					if later == first {
						st = st[:3]
					}
					told := want
					if told == api.OK && later != first {
						told = wantLater
					}
					if err := checkRead(t, st); err != told {
						t.Errorf("%q %v", st, err)
					}
					slices.Reverse(st)
					if err := checkRead(t, st); err != told {
						t.Errorf("%q %v", st, err)
					}
				}
			}
		}
	}
	// Alternatives are right in two of them, and operators that only ask in three.
	for i, name := range names {
		want := []api.Errno{api.OK, api.OK, api.ErrForm, api.ErrForm}[i]
		for _, v := range []string{"cd | ef", "cd, ef|gh", "cd (= 1) | cd (= 2)"} {
			if err := checkRead(t, stanza.Stanza{f("Package", "ab"), f("Version", "1"), f(name, v)}); err != want {
				t.Errorf("%s %q %v", name, v, err)
			}
		}
		for _, sign := range []string{"<<", "<=", "=", ">=", ">>"} {
			want := api.OK
			if name == "Provides" && sign != "=" {
				want = api.ErrForm
			}
			for _, v := range []string{"cd (" + sign + " 1)", "cd, ef, gh (" + sign + " 2-1), ij"} {
				if err := checkRead(t, stanza.Stanza{f("Package", "ab"), f("Version", "1"), f(name, v)}); err != want {
					t.Errorf("%s %q %v", name, v, err)
				}
			}
		}
	}
}

// E1: Provides may have 8, the others 12; too many comes ahead of another operator, and behind what depends.Atoms tells.
func TestReadMany(t *testing.T) {
	for n := 1; n < 30; n++ {
		for _, name := range []string{"Depends", "Recommends", "Conflicts", "Provides"} {
			most := 12
			if name == "Provides" {
				most = 8
			}
			for piece, wrong := range map[string]api.Errno{"cd": api.OK, "cd (= 1)": api.OK, "cd (>= 1)": api.ErrForm, "A": api.ErrName, "cd (=": api.ErrForm, "cd | ef": api.ErrForm} {
				want := wrong
				switch {
				case n > 12:
					want = api.ErrMany
				case n > most && (wrong == api.OK || piece == "cd (>= 1)"):
					want = api.ErrMany
				case piece == "cd (>= 1)" && name != "Provides", piece == "cd | ef" && strings.HasSuffix(name, "ends"):
					want = api.OK
				}
				v := strings.TrimSuffix(strings.Repeat(piece+", ", n), ", ")
				if err := checkRead(t, stanza.Stanza{f("Package", "ab"), f("Version", "1"), f(name, v)}); err != want {
					t.Errorf("%s %q %v", name, v, err)
				}
			}
		}
	}
}

// E1: all rows of few fields.
func TestReadAll(t *testing.T) {
	fields := []api.Field{
		f("Package", "ab"), f("Package", "A"), f("Package", ""), f("Version", "1"), f("Version", "x"), f("Version", ""), f("X", "A"),
		f("Depends", "cd | ef"), f("Depends", "A"), f("Recommends", "cd (>= 1)"), f("Recommends", "cd ("), f("Conflicts", "cd (<< 1), ef"), f("Conflicts", "cd | ef"), f("Provides", "cd, ef (= 1)"), f("Provides", "cd (>= 1)"), f("Provides", "cd (= x)"),
	}
	told := map[api.Errno]int{}
	rows := []stanza.Stanza{nil}
	for range 4 {
		var longer []stanza.Stanza
		for _, st := range rows {
			told[checkRead(t, st)]++
			for _, x := range fields {
				longer = append(longer, append(slices.Clone(st), x))
			}
		}
		rows = longer
	}
	for _, st := range rows {
		told[checkRead(t, st)]++
	}
	for _, e := range []api.Errno{api.OK, api.ErrNone, api.ErrName, api.ErrVersion, api.ErrForm} {
		if told[e] < 100 {
			t.Error(e, told[e])
		}
	}
}

const (
	ab1 = "Package: ab\nVersion: 1\n\n"
	ab2 = "Package: ab\nVersion: 2\n\n"
	cd1 = "Version: 1\nPackage: cd\nDepends: ab\nX: y\n z\n\n"
)

// E2: Index, by the line where a stanza can't be made out, and by the stanza where an entry can't.
func TestIndex(t *testing.T) {
	type answer struct {
		entries, number int
		err             api.Errno
	}
	for s, want := range map[string]answer{
		"":                                {0, 0, api.OK},
		"\n\n":                            {0, 0, api.OK},
		ab1:                               {1, 0, api.OK},
		"\n\n" + ab1 + "\n\n" + ab2 + cd1: {3, 0, api.OK},
		"Package: ab\nVersion: 1":         {1, 0, api.OK},
		ab1 + "Package: ab\nVersion: 1-0": {2, 0, api.OK}, // one in the order, but of another text
		ab1 + "Package: cd\nVersion: 1":   {2, 0, api.OK},
		fullText:                          {1, 0, api.OK},
		ab1 + ab1:                         {0, 2, api.ErrThere},
		ab1 + ab2 + ab1:                   {0, 3, api.ErrThere},
		ab1 + ab2 + ab2:                   {0, 3, api.ErrThere},
		cd1 + ab1 + "Package: cd\nVersion: 1\nDepends: ef": {0, 3, api.ErrThere}, // whatever else it has
		"X: y":                         {0, 1, api.ErrNone},
		ab1 + "X: y":                   {0, 2, api.ErrNone},
		ab1 + "\n\n\nX: y":             {0, 2, api.ErrNone},
		ab1 + ab2 + "X: y":             {0, 3, api.ErrNone},
		"X: y\n\n" + ab1:               {0, 1, api.ErrNone},
		"Package: ab":                  {0, 1, api.ErrNone},
		"Package:\nVersion: 1":         {0, 1, api.ErrName},
		"Package: ab\nVersion:":        {0, 1, api.ErrVersion},
		ab1 + "Package: A\nVersion: 1": {0, 2, api.ErrName},
		ab1 + "Package: ab\nVersion: 1\nDepends: A":        {0, 2, api.ErrName}, // Read's error comes ahead of ErrThere
		ab1 + "Package: ab\nVersion: 1\nProvides: cd | ef": {0, 2, api.ErrForm},
		ab1 + ab1 + "X: y":               {0, 2, api.ErrThere}, // the first stanza with an error
		ab1 + "X: y\n\n" + ab1:           {0, 2, api.ErrNone},
		"X":                              {0, 1, api.ErrForm},
		ab1 + "X":                        {0, 4, api.ErrForm},
		ab1 + ab1 + "X":                  {0, 7, api.ErrForm}, // stanza.Parse's error comes ahead of all others
		"X: y\n\nX: y\nX: y":             {0, 4, api.ErrThere},
		ab1 + "Package: ab\nPackage: ab": {0, 5, api.ErrThere},
		ab1 + " ":                        {0, 4, api.ErrForm},
		ab1 + "A: \x00":                  {0, 4, api.ErrForm},
		strings.Repeat("X: y\n\n", 201):  {0, 401, api.ErrMany},
		strings.Repeat("X", 60001):       {0, 0, api.ErrLong},
	} {
		l, n, err := entry.Index(s)
		if len(l) != want.entries || n != want.number || err != want.err {
			t.Errorf("%.200q %v %d %v", s, l, n, err)
		}
		checkIndex(t, s)
	}
	if l, _, _ := entry.Index(cd1 + fullText + "\n" + ab1); !alike(l, []api.Entry{{Name: "cd", Version: "1", Depends: []api.Group{{atom("ab", 0, "")}}}, full(), plain("ab", "1")}) {
		t.Error(l)
	}
}

// E2: all rows of few stanzas.
func TestIndexAll(t *testing.T) {
	pieces := []string{ab1, ab2, cd1, "\n", "X: y\n\n", "Package: A\nVersion: 1\n\n", "Package: ab\nVersion: 0:1\n\n", "Package: ab\nVersion: 1\nProvides: cd (>> 1)\n\n", "Package: ab\nVersion: 1.\nConflicts: ab\n\n", "X\n"}
	told := map[api.Errno]int{}
	rows := []string{""}
	for range 4 {
		var longer []string
		for _, s := range rows {
			for _, p := range pieces {
				longer = append(longer, s+p)
				told[checkIndex(t, s+p)]++
			}
		}
		rows = longer
	}
	for _, e := range []api.Errno{api.OK, api.ErrNone, api.ErrName, api.ErrVersion, api.ErrForm, api.ErrThere} {
		if told[e] < 30 {
			t.Error(e, told[e])
		}
	}
}

// many has n entries of different versions.
func many(n int) []api.Entry {
	var l []api.Entry
	for i := range n {
		l = append(l, plain("ab", strconv.Itoa(i)))
	}
	return l
}

// E2: 64 stanzas are read; one more is ErrMany and 0, whatever else is wrong.
func TestIndexMany(t *testing.T) {
	for _, n := range []int{1, 2, 63, 64, 65, 66, 128, 199} {
		right := ""
		for _, e := range many(n) {
			right += "Package: ab\nVersion: " + e.Version + "\n\n"
		}
		l, number, err := entry.Index(right)
		if n <= 64 && (!alike(l, many(n)) || number != 0 || err != api.OK) || n > 64 && (len(l) != 0 || number != 0 || err != api.ErrMany) {
			t.Error(n, number, err)
		}
		for _, wrong := range []string{"X: y\n\n", ab1, "Package: A\nVersion: 1\n\n"} {
			for _, s := range []string{wrong + right, right + wrong} {
				if err := checkIndex(t, s); (err == api.ErrMany) != (n+1 > 64) {
					t.Error(n, err)
				}
			}
		}
	}
}

// E2: Print, letter by letter, and what it does not print.
func TestPrint(t *testing.T) {
	for i, c := range []struct {
		l    []api.Entry
		want string
	}{
		{nil, ""},
		{[]api.Entry{}, ""},
		{[]api.Entry{plain("ab", "1")}, "Package: ab\nVersion: 1\n"},
		{[]api.Entry{plain("cd", "1"), full(), plain("ab", "1")}, "Package: cd\nVersion: 1\n\n" + fullText + "\nPackage: ab\nVersion: 1\n"},
		{[]api.Entry{plain("ab", "2"), plain("ab", "1"), plain("ab", "1-0"), plain("ac", "1")}, "Package: ab\nVersion: 2\n\nPackage: ab\nVersion: 1\n\nPackage: ab\nVersion: 1-0\n\nPackage: ac\nVersion: 1\n"},
		{[]api.Entry{plain("ab", "1"), plain("ab", "1")}, ""},
		{[]api.Entry{full(), plain("ab", "1:2-3")}, ""}, // whatever else they have
		{[]api.Entry{plain("ab", "1"), plain("cd", "1"), plain("ab", "2"), plain("ab", "1")}, ""},
		{[]api.Entry{{}}, ""},
		{[]api.Entry{{}, {}}, ""},
	} {
		if s := entry.Print(c.l); s != c.want {
			t.Errorf("%d %q", i, s)
		}
		checkIndex(t, c.want)
	}
	for _, wrong := range []api.Entry{{}, plain("ab", "x"), plain("A", "1"), {Name: "ab", Version: "z", Depends: []api.Group{{}}}, {Name: "ab", Version: "1", Provides: atoms(9)}} {
		for place := range 4 {
			if s := entry.Print(slices.Insert([]api.Entry{plain("ab", "1"), full(), plain("cd", "1")}, place, wrong)); s != "" {
				t.Errorf("%v %q", wrong, s)
			}
		}
	}
}

// E2: 64 entries are printed, no more; two of one name and version are not, wherever they stand.
func TestPrintMany(t *testing.T) {
	for n := range 130 {
		s := entry.Print(many(n))
		if (s != "") != (1 <= n && n <= 64) {
			t.Error(n, len(s))
		}
		if l, _, err := entry.Index(s); n <= 64 && (!alike(l, many(n)) || err != api.OK) {
			t.Error(n, err)
		}
	}
	for i := range 64 {
		for j := range 64 {
			l := many(64)
			l[j] = l[i]
			if s := entry.Print(l); (s != "") != (i == j) {
				t.Error(i, j)
			}
		}
	}
}

// E2: entries that are right have stanzas that are not, if their text has more than 60000 bytes.
func TestPrintLong(t *testing.T) {
	const all, head = 20, len("Package: ab\nVersion: 10\nDepends: \n\n")
	for n := 59990; n < 60010; n++ {
		var l []api.Entry
		for i := range all {
			size := 3000
			if i == all-1 {
				size += n - 3000*all + 1 // behind the last stanza there is no line feed more
			}
			e := plain("ab", strconv.Itoa(10+i))
			e.Depends = needs(size - head)
			l = append(l, e)
			checkRight(t, e, true)
		}
		s := entry.Print(l)
		if n <= 60000 && len(s) != n || n > 60000 && s != "" {
			t.Error(n, len(s))
		}
		if checkPrinted(t, l) != (n <= 60000) {
			t.Error(n)
		}
	}
}

// needs is a right field whose text has n bytes, some 3000: of 71 names, with 3 bytes between two, or 2 between two groups.
func needs(n int) []api.Group {
	const count = 71
	bytes := n - 3*(count-1) + (count-1)/6
	var l []api.Group
	for i := range count {
		size := bytes / count
		if i < bytes%count {
			size++
		}
		if i%6 == 0 {
			l = append(l, nil)
		}
		l[i/6] = append(l[i/6], api.Atom{Name: strings.Repeat("a", size)})
	}
	return l
}

// E3: Gives is the entry itself, then what it provides.
func TestGives(t *testing.T) {
	for i, c := range []struct {
		e    api.Entry
		want []api.Atom
	}{
		{plain("ab", "1"), []api.Atom{atom("ab", 3, "1")}},
		{full(), []api.Atom{atom("ab", 3, "1:2-3"), atom("op", 0, ""), atom("qr", 3, "7")}},
		{api.Entry{Name: "cd", Version: "1", Provides: []api.Atom{atom("vv", 0, ""), atom("cd", 3, "9"), atom("cd", 3, "1")}}, []api.Atom{atom("cd", 3, "1"), atom("vv", 0, ""), atom("cd", 3, "9"), atom("cd", 3, "1")}},
		{api.Entry{}, []api.Atom{atom("", 3, "")}}, // it does not ask whether it is right
		{api.Entry{Name: "A", Version: "x", Provides: []api.Atom{{}, atom("B", 9, "y")}}, []api.Atom{atom("A", 3, "x"), {}, atom("B", 9, "y")}},
	} {
		if l := entry.Gives(c.e); !slices.Equal(l, c.want) {
			t.Error(i, l)
		}
	}
	for n := range 20 {
		if l := entry.Gives(api.Entry{Name: "ab", Version: "1", Conflicts: atoms(3), Provides: atoms(n)}); !slices.Equal(l, append([]api.Atom{atom("ab", 3, "1")}, atoms(n)...)) {
			t.Error(n, l)
		}
	}
}

// E3: Fights, at what is easily mistaken, from either side (E4).
func TestFights(t *testing.T) {
	entryOf := func(name, v, bars, gives string) api.Entry {
		conflicts, e1 := depends.Atoms(bars)
		provides, e2 := depends.Atoms(gives)
		e := api.Entry{Name: name, Version: v, Conflicts: conflicts, Provides: provides}
		if e1 != api.OK || e2 != api.OK {
			t.Fatal(bars, gives)
		}
		checkRight(t, e, true)
		return e
	}
	for i, c := range []struct {
		a, b api.Entry
		want bool
	}{
		{entryOf("ab", "1", "vv", ""), entryOf("cd", "1", "", "vv"), true},
		{entryOf("ab", "1", "vv", ""), entryOf("cd", "1", "", "vv (= 7)"), true},
		{entryOf("ab", "1", "vv", ""), entryOf("vv", "1", "", ""), true},
		{entryOf("ab", "1", "vv", ""), entryOf("cd", "1", "", ""), false},
		{entryOf("ab", "1", "vv", ""), entryOf("cd", "1", "vv", ""), false},  // to shun the same is not to fight
		{entryOf("ab", "1", "", "vv"), entryOf("cd", "1", "", "vv"), false},  // nor is to give the same
		{entryOf("ab", "1", "vv", "vv"), entryOf("cd", "1", "", ""), false},  // nor is to shun what one gives oneself
		{entryOf("ab", "1", "vv", "vv"), entryOf("cd", "1", "vv", ""), true}, // but here the other one shuns it
		{entryOf("ab", "1", "vv", "vv"), entryOf("cd", "1", "vv", "vv"), true},
		{entryOf("ab", "1", "ab", ""), entryOf("ab", "1", "", ""), false}, // one of its own name
		{entryOf("ab", "1", "ab", ""), entryOf("ab", "2", "ab", ""), false},
		{entryOf("ab", "1", "vv, ab (= 2)", ""), entryOf("ab", "2", "vv", "vv"), false},
		{entryOf("ab", "1", "ab", ""), entryOf("cd", "1", "", "ab"), true},
		{entryOf("ab", "1", "ab", "ab"), entryOf("cd", "1", "", ""), false},
		{entryOf("ab", "1", "vv (<< 2)", ""), entryOf("cd", "1", "", "vv"), false}, // no version is given
		{entryOf("ab", "1", "vv (<< 2)", ""), entryOf("cd", "1", "", "vv (= 1)"), true},
		{entryOf("ab", "1", "vv (<< 2)", ""), entryOf("cd", "1", "", "vv (= 2)"), false},
		{entryOf("ab", "1", "vv (<< 2)", ""), entryOf("vv", "1.9", "", ""), true},
		{entryOf("ab", "1", "vv (<< 2)", ""), entryOf("vv", "2", "", ""), false},
		{entryOf("ab", "1", "vv (<< 2)", ""), entryOf("vv", "2", "", "vv (= 1)"), true},
		{entryOf("ab", "1", "vv (= 1)", ""), entryOf("vv", "1-0", "", ""), true},
		{entryOf("ab", "1", "vv (>= 1)", ""), entryOf("vv", "1~", "", ""), false},
		{entryOf("ab", "1", "xx, yy, vv", ""), entryOf("cd", "1", "", "ww, zz, vv"), true},
		{entryOf("ab", "1", "vv, xx, yy", ""), entryOf("cd", "1", "", "vv, ww, zz"), true},
		{entryOf("ab", "1", "xx, yy, cd", ""), entryOf("cd", "1", "", "ww, zz"), true},
		{entryOf("ab", "1", "xx, yy", ""), entryOf("cd", "1", "ww, ab (= 1)", "zz"), true},
		{entryOf("ab", "1", "xx, yy", ""), entryOf("cd", "1", "ww, ab (= 2)", "zz"), false},
		{api.Entry{Name: "ab", Version: "1", Depends: []api.Group{{atom("cd", 0, "")}}, Recommends: []api.Group{{atom("cd", 0, "")}}}, entryOf("cd", "1", "", ""), false},
		{entryOf("ab", "1", "cd", ""), api.Entry{Name: "ef", Version: "1", Depends: []api.Group{{atom("cd", 0, "")}}}, false},
		{api.Entry{}, api.Entry{}, false},
		{api.Entry{Conflicts: []api.Atom{{}}}, api.Entry{Name: "A", Provides: []api.Atom{{}}}, true}, // it does not ask whether they are right
		{api.Entry{Conflicts: []api.Atom{{Name: "A", Op: 6}}}, api.Entry{Name: "A"}, false},
	} {
		if entry.Fights(c.a, c.b) != c.want || entry.Fights(c.b, c.a) != c.want {
			t.Error(i)
		}
		if entry.Fights(c.a, c.a) || entry.Fights(c.b, c.b) {
			t.Error(i, "itself")
		}
	}
}

// E3, E4: Fights of all pairs of many entries, by what depends.Open leaves open.
func TestFightsAll(t *testing.T) {
	lists := [][]api.Atom{nil, {atom("ab", 0, "")}, {atom("cd", 3, "1")}, {atom("vv", 0, "")}, {atom("vv", 3, "1")}, {atom("vv", 1, "2"), atom("ab", 5, "1")}, {atom("ef", 0, ""), atom("vv", 4, "2")}}
	var l []api.Entry
	for _, name := range []string{"ab", "cd", "vv"} {
		for _, v := range []string{"1", "2"} {
			for _, bars := range lists {
				for _, gives := range lists {
					l = append(l, api.Entry{Name: name, Version: v, Conflicts: bars, Provides: gives})
				}
			}
		}
	}
	met := func(a, b api.Entry) bool {
		for _, c := range a.Conflicts {
			if len(depends.Open([]api.Group{{c}}, []api.Atom{atom(b.Name, api.Equal, b.Version)})) == 0 || len(depends.Open([]api.Group{{c}}, b.Provides)) == 0 {
				return true
			}
		}
		return false
	}
	told := map[bool]int{}
	for _, a := range l {
		for _, b := range l {
			want := a.Name != b.Name && (met(a, b) || met(b, a))
			if entry.Fights(a, b) != want {
				t.Fatal(a, b, want)
			}
			told[want]++
		}
	}
	if told[true] < 1000 || told[false] < 1000 {
		t.Error(told)
	}
}

// E3: Less, over entries whose places are known: by name, then by version, then by its text.
func TestLess(t *testing.T) {
	rising := []api.Entry{
		plain("", "9"), plain("A", "9"), plain("a", ""), plain("a", "b"), plain("a", "x"), plain("a", "1~"),
		plain("a", "0:1"), plain("a", "1"), plain("a", "1-0"), plain("a", "1a"), plain("a", "1.9"), plain("a", "1.10"), plain("a", "02"), plain("a", "2"), plain("a", "1:0"), plain("a", "9:0"), plain("a", "10:0"),
		plain("a+", "2"), plain("a-", "1"), plain("a0", "x"), plain("aa", "1"), plain("ab", "1"), plain("abc", "1"), plain("ac", "0"), plain("b", "0"), plain("\xff", ""),
	}
	for i, a := range rising {
		for j, b := range rising {
			if entry.Less(a, b) != (i < j) {
				t.Error(a, b)
			}
			// Nothing else is asked.
			b.Depends, b.Recommends, b.Conflicts, b.Provides = full().Depends, full().Recommends, full().Conflicts, full().Provides
			if entry.Less(a, b) != (i < j) || entry.Less(b, a) != (j < i) {
				t.Error(a, b)
			}
		}
	}
}

// E4: Read of Write, and Index of Print, over entries put together of all right pieces.
func TestWriteAll(t *testing.T) {
	fields, bars, gives := rightGroups(), slices.Concat(rightGiven(), rightBarred()), rightGiven()
	var l []api.Entry
	printed := 0
	for i, name := range rightNames() {
		for j, v := range rightVersions() {
			for k := range bars {
				e := api.Entry{Name: name, Version: v, Depends: fields[(i+k)%len(fields)], Recommends: fields[(j+3*k)%len(fields)], Conflicts: bars[k], Provides: gives[(i+j+k)%len(gives)]}
				checkRight(t, e, true)
				if k == (i+j)%len(bars) {
					l = append(l, e)
				}
			}
			if l = l[max(0, len(l)-64):]; checkPrinted(t, l) {
				printed++
			}
		}
	}
	if printed < 60 {
		t.Error(printed)
	}
}

// checkPrinted holds Print of right entries, none there twice, against their stanzas' text, and Index against it.
func checkPrinted(t *testing.T, l []api.Entry) bool {
	t.Helper()
	var stanzas []stanza.Stanza
	for _, e := range l {
		stanzas = append(stanzas, stanzaOf(e))
	}
	s := entry.Print(l)
	if s != stanza.Print(stanzas) {
		t.Fatalf("%.300q", s)
	}
	if again, n, err := entry.Index(s); s != "" && (!alike(again, l) || n != 0 || err != api.OK) {
		t.Fatalf("%s %d %v", brief(again), n, err)
	}
	return s != ""
}

// P1: texts and lists that are long.
func TestLong(t *testing.T) {
	huge := strings.Repeat("a", 1<<24)
	longGroups, longAtoms := groups(1<<16, 1), atoms(1<<16)
	for i, change := range []func(*api.Entry){
		func(e *api.Entry) { e.Name = huge },
		func(e *api.Entry) { e.Version = "1" + huge },
		func(e *api.Entry) { e.Depends = longGroups },
		func(e *api.Entry) { e.Recommends = []api.Group{longAtoms} },
		func(e *api.Entry) { e.Conflicts = longAtoms },
		func(e *api.Entry) { e.Provides = longAtoms },
		func(e *api.Entry) { e.Provides = []api.Atom{atom(huge, 3, huge)} },
	} {
		e := full()
		change(&e)
		checkRight(t, e, false)
		if len(entry.Gives(e)) != 1+len(e.Provides) || entry.Fights(e, plain("zz", "1")) || entry.Less(e, e) {
			t.Error(i)
		}
	}
	for _, name := range []string{"Package", "Version", "Depends", "Recommends", "Conflicts", "Provides"} {
		for _, piece := range []string{"a", ",", "|", " ", "ab,", "ab (= 1)|", "\n", "\xff"} {
			st := stanza.Stanza{f("Package", "ab"), f("Version", "1")}
			if err := checkRead(t, stanza.Put(st, name, strings.Repeat(piece, 1<<17))); err == api.OK {
				t.Errorf("%s %q", name, piece)
			}
		}
	}
	for _, piece := range []string{ab1, "X: y\n\n", "a", "\n", "Package: ab\n", "Provides: ab", "\x00"} {
		checkIndex(t, strings.Repeat(piece, 1<<14))
		checkIndex(t, strings.Repeat(piece, 60000/len(piece)))
	}
	st := stanza.Stanza(slices.Repeat([]api.Field{f("X", "y")}, 1<<18))
	checkRead(t, st)
	checkRead(t, append(st, f("Version", "1"), f("Package", "ab")))
	if s := entry.Print(slices.Repeat([]api.Entry{full()}, 1<<18)); s != "" {
		t.Error(len(s))
	}
}

// P3: nothing that is handed in is written into, and what lies behind a list's length is not read.
func TestHandedIn(t *testing.T) {
	make1 := func() api.Entry {
		e := full()
		e.Depends = append(groups(2, 2), api.Group{{}})[:2]
		e.Depends[0] = append(e.Depends[0], api.Atom{})[:2]
		e.Recommends = append(groups(1, 1), nil)[:1]
		e.Conflicts = append(atoms(2), atom("zz", 0, ""), api.Atom{})[:2]
		e.Provides = append(atoms(2), atom("yy", 0, ""), atom("yy", 4, "1"))[:2]
		return e
	}
	checkRight(t, make1(), true)
	e, other := make1(), api.Entry{Name: "zz", Version: "1", Conflicts: []api.Atom{atom("yy", 0, "")}}
	if entry.Fights(e, other) {
		t.Error("Fights")
	}
	l := []api.Entry{e, plain("cd", "1"), {}}[:2]
	entry.Right(e)
	entry.Write(e)
	entry.Less(e, other)
	if s := entry.Print(l); strings.Count(s, "Package") != 2 {
		t.Errorf("%q", s)
	}
	gives := entry.Gives(e)
	_ = append(gives, atom("behind", 0, ""), atom("behind", 0, ""), atom("behind", 0, ""))
	for i := range gives {
		gives[i] = atom("changed", 0, "")
	}
	st := stanza.Stanza{f("Package", "ab"), f("Version", "1"), f("Depends", "cd"), f("Depends", "A")}[:2]
	if x, err := entry.Read(st); !same(x, plain("ab", "1")) || err != api.OK {
		t.Error(x, err)
	}
	want := make1()
	if !reflect.DeepEqual(e, want) || !reflect.DeepEqual(l[:3], []api.Entry{want, plain("cd", "1"), {}}) || !slices.Equal(st[:4], stanza.Stanza{f("Package", "ab"), f("Version", "1"), f("Depends", "cd"), f("Depends", "A")}) {
		t.Error(e, l, st)
	}
	if !reflect.DeepEqual(e.Depends[:3], want.Depends[:3]) || !slices.Equal(e.Depends[0][:3], want.Depends[0][:3]) || !slices.Equal(e.Conflicts[:4], want.Conflicts[:4]) || !slices.Equal(e.Provides[:4], want.Provides[:4]) {
		t.Error(e)
	}
}

// P3: what is answered is new: no change of one list shows in another one, or in another answer.
func TestAnswered(t *testing.T) {
	text := fullText + "\n" + strings.Replace(fullText, "Version: 1:2-3", "Version: 2", 1)
	st := entry.Write(full())
	read := func() []api.Entry {
		e, _ := entry.Read(st)
		l, _, _ := entry.Index(text)
		return append(l, e)
	}
	l, want := read(), read()
	for i, e := range l {
		spoil(e.Conflicts)
		spoil(e.Provides)
		for _, x := range [][]api.Group{e.Depends, e.Recommends} {
			for _, g := range x {
				spoil(g)
			}
			_ = append(x, nil, nil, nil)
		}
		for j := i + 1; j < len(l); j++ {
			if !reflect.DeepEqual(l[j], want[j]) {
				t.Error(i, j, l[j])
			}
		}
	}
	if again := read(); !reflect.DeepEqual(again, want) {
		t.Error(again)
	}
	e := full()
	a, b := entry.Write(e), entry.Write(e)
	for i := range a {
		a[i] = f("changed", "")
	}
	_ = append(a, f("behind", ""), f("behind", ""))
	if !slices.Equal(b, st) || !reflect.DeepEqual(e, full()) {
		t.Error(b, e)
	}
	x, y := entry.Gives(e), entry.Gives(e)
	spoil(x)
	if !slices.Equal(y, entry.Gives(e)) || !reflect.DeepEqual(e, full()) {
		t.Error(y, e)
	}
}

func spoil(l []api.Atom) {
	_ = append(l, atom("behind", 0, ""), atom("behind", 0, ""), atom("behind", 0, ""))
	for i := range l {
		l[i] = atom("changed", 0, "")
	}
}

// P4: the same call answers the same, whatever came between.
func TestTwice(t *testing.T) {
	texts := []string{"", ab1, fullText, ab1 + ab1, "X: y", "X", fullText + "\n" + ab1 + ab2, strings.Repeat("X: y\n\n", 65), "Package: ab\nVersion: 1\nProvides: cd (>= 1)"}
	type answer struct {
		l    []api.Entry
		n    int
		err  api.Errno
		text string
	}
	var first []answer
	for round := range 3 {
		for i, s := range texts {
			l, n, err := entry.Index(s)
			a := answer{l, n, err, entry.Print(l)}
			if round == 0 {
				first = append(first, a)
			}
			if !reflect.DeepEqual(first[i], a) {
				t.Errorf("%.20q %v", s, a)
			}
		}
	}
}
