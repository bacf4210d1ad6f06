package depends_test

import (
	"math"
	"reflect"
	"regexp"
	"slices"
	"strconv"
	"strings"
	"testing"

	"keelson/api"
	"keelson/depends"
	"keelson/relation"
)

var (
	ab = api.Atom{Name: "ab"}
	cd = api.Atom{Name: "cd"}
	ef = api.Atom{Name: "ef"}
)

func atom(name string, op int, v string) api.Atom {
	return api.Atom{Name: name, Op: op, Version: v}
}

// field has a group a slot, of as many atoms as that says, all of them of different names.
func field(sizes ...int) []api.Group {
	l := []api.Group{}
	for i, n := range sizes {
		g := api.Group{}
		for j := range n {
			g = append(g, api.Atom{Name: "n" + strconv.Itoa(i) + "." + strconv.Itoa(j)})
		}
		l = append(l, g)
	}
	return l
}

// rightAtoms and wrongAtoms are of all kinds that chapter 3 names.
func rightAtoms() []api.Atom {
	return []api.Atom{
		ab, {Name: "0+"}, {Name: "g++"}, {Name: "lib-x.y"}, {Name: strings.Repeat("a", 40)},
		atom("ab", api.Less, "1"), atom("ab", api.AtMost, "1:2-3~"), atom("cd", api.Equal, "2-1-3"),
		atom("ab", api.AtLeast, "007"), atom("ef", api.More, "1:0:1"), atom("ab", api.Equal, strings.Repeat("9", 60)),
	}
}

func wrongAtoms() []api.Atom {
	return []api.Atom{
		{}, {Name: "a"}, {Name: "A"}, {Name: "ab "}, {Name: " ab"}, {Name: "ab,cd"}, {Name: "ab|cd"}, {Name: strings.Repeat("a", 41)},
		atom("ab", api.Any, "1"), atom("ab", api.Equal, ""), atom("ab", api.Equal, "x"), atom("ab", api.Equal, "0:1"),
		atom("ab", 6, "1"), atom("ab", -1, "1"), atom("ab", math.MaxInt, "1"), atom("ab", math.MinInt, ""), atom("A", api.Equal, "1"),
	}
}

// textOf is the chapter's text, put together from the back on.
func textOf(l []api.Group) string {
	s := ""
	for i, g := range slices.Backward(l) {
		for j, a := range slices.Backward(g) {
			switch {
			case i == len(l)-1 && j == len(g)-1:
			case j == len(g)-1:
				s = ", " + s
			default:
				s = " | " + s
			}
			s = relation.Print(a) + s
		}
	}
	return s
}

var (
	commas = regexp.MustCompile(` *, *`)
	bars   = regexp.MustCompile(` *\| *`)
)

// parseOf is Parse as the chapter says it, said once more: marks take the blanks beside them away.
func parseOf(s string) ([]api.Group, api.Errno) {
	if len(s) == 0 {
		return nil, api.OK
	}
	var cut [][]string
	for _, part := range commas.Split(strings.TrimRight(strings.TrimLeft(s, " "), " "), -1) {
		cut = append(cut, bars.Split(part, -1))
	}
	most := 0
	for _, l := range cut {
		most = max(most, len(l))
	}
	if len(cut) > 12 || most > 6 {
		return nil, api.ErrMany
	}
	var l []api.Group
	var errs []api.Errno
	for i, texts := range cut {
		l = append(l, nil)
		for _, text := range texts {
			a, err := relation.Parse(text)
			l[i] = append(l[i], a)
			errs = append(errs, err)
		}
	}
	if i := slices.IndexFunc(errs, func(e api.Errno) bool { return e != api.OK }); i >= 0 {
		return nil, errs[i]
	}
	return l, api.OK
}

// alike holds fields against one another: of a list of nothing it does not ask whether it is nil.
func alike(a, b []api.Group) bool {
	return slices.EqualFunc(a, b, func(g, h api.Group) bool { return slices.Equal(g, h) })
}

// checkParse holds Parse, Print, Right and Atoms of one text against parseOf.
func checkParse(t *testing.T, s string) api.Errno {
	t.Helper()
	want, wantErr := parseOf(s)
	l, err := depends.Parse(s)
	if !alike(l, want) || err != wantErr {
		t.Fatalf("%.200q %v %v, not %v %v", s, l, err, want, wantErr)
	}
	var flat []api.Atom
	flatErr := wantErr
	for _, g := range want {
		flat = append(flat, g...)
		if len(g) > 1 {
			flatErr = api.ErrForm
		}
	}
	if flatErr != api.OK {
		flat = nil
	}
	if atoms, err := depends.Atoms(s); !slices.Equal(atoms, flat) || err != flatErr {
		t.Fatalf("%.200q %v %v, not %v %v", s, atoms, err, flat, flatErr)
	}
	if err != api.OK {
		return err
	}
	// F4: Print of Parse is a text that is parsed as the same.
	text := depends.Print(l)
	again, err := depends.Parse(text)
	if !depends.Right(l) || text != textOf(l) || !alike(again, l) || err != api.OK || depends.Print(again) != text {
		t.Fatalf("%.200q %.200q %v %v", s, text, again, err)
	}
	return api.OK
}

// rows are all texts of at most n pieces, of these.
func rows(pieces []string, n int) []string {
	l := []string{""}
	for from := 0; n > 0; n-- {
		to := len(l)
		for _, s := range l[from:to] {
			for _, p := range pieces {
				l = append(l, s+p)
			}
		}
		from = to
	}
	slices.Sort(l)
	return slices.Compact(l)
}

// F1: how many groups, and how many atoms of each, are right.
func TestRightSizes(t *testing.T) {
	for n := range 30 {
		l := field(slices.Repeat([]int{1}, n)...)
		if depends.Right(l) != (n <= 12) || (depends.Print(l) != "") != (1 <= n && n <= 12) {
			t.Error(n)
		}
	}
	for n := range 30 {
		for place := range 12 {
			sizes := slices.Repeat([]int{6}, 12)
			sizes[place] = n
			l, want := field(sizes...), ""
			if 1 <= n && n <= 6 {
				want = textOf(l)
			}
			if depends.Right(l) != (want != "") || depends.Print(l) != want {
				t.Error(n, place)
			}
		}
	}
	for i, l := range [][]api.Group{{nil}, {{}}, {{ab}, nil}, {nil, {ab}}, make([]api.Group, 12), make([]api.Group, 13)} {
		if depends.Right(l) || depends.Print(l) != "" {
			t.Error(i)
		}
	}
	for i, l := range [][]api.Group{nil, {}} {
		if !depends.Right(l) || depends.Print(l) != "" {
			t.Error(i)
		}
	}
}

// F1: one atom that is not right makes the field so, wherever it stands.
func TestRightAtoms(t *testing.T) {
	sizes := []int{1, 6, 2, 1}
	for i, n := range sizes {
		for j := range n {
			for _, a := range rightAtoms() {
				l := field(sizes...)
				l[i][j] = a
				if !depends.Right(l) || depends.Print(l) != textOf(l) {
					t.Errorf("%d %d %v", i, j, a)
				}
			}
			for _, a := range wrongAtoms() {
				l := field(sizes...)
				l[i][j] = a
				if depends.Right(l) || depends.Print(l) != "" {
					t.Errorf("%d %d %v", i, j, a)
				}
			}
		}
	}
}

// F1: Print, letter by letter.
func TestPrint(t *testing.T) {
	for want, l := range map[string][]api.Group{
		"ab":                  {{ab}},
		"ab | cd":             {{ab, cd}},
		"ab, cd":              {{ab}, {cd}},
		"ab (>= 1) | cd, ef":  {{atom("ab", api.AtLeast, "1"), cd}, {ef}},
		"ef, ab | cd (<< 1~)": {{ef}, {ab, atom("cd", api.Less, "1~")}},
		"ab | ab, ab, ab":     {{ab, ab}, {ab}, {ab}},
		"ab | cd | ef, g++ (= 1:2-3), lib-x.y (>> 007) | ef (<= 0)": {{ab, cd, ef}, {atom("g++", api.Equal, "1:2-3")}, {atom("lib-x.y", api.More, "007"), atom("ef", api.AtMost, "0")}},
	} {
		if s := depends.Print(l); s != want {
			t.Errorf("%q %q", want, s)
		}
	}
}

// F1: Parse, at what may be taken for something else.
func TestParse(t *testing.T) {
	for s, want := range map[string][]api.Group{
		"":                           nil,
		"ab":                         {{ab}},
		"ab, cd":                     {{ab}, {cd}},
		"ab,cd":                      {{ab}, {cd}},
		"ab , cd":                    {{ab}, {cd}},
		"ab | cd":                    {{ab, cd}},
		"ab|cd":                      {{ab, cd}},
		"cd |ab,ef| ab":              {{cd, ab}, {ef, ab}},
		"   ab   |   cd   ,   ef   ": {{ab, cd}, {ef}},
		" ab":                        {{ab}},
		"ab ":                        {{ab}},
		"ab,ab":                      {{ab}, {ab}},
		"ab|ab":                      {{ab, ab}},
		"ab (>= 1) | cd , ef":        {{atom("ab", api.AtLeast, "1"), cd}, {ef}},
		"ef,ab (= 1)|cd (<< 2-1-3) ": {{ef}, {atom("ab", api.Equal, "1"), atom("cd", api.Less, "2-1-3")}},
	} {
		if l, e := depends.Parse(s); !alike(l, want) || e != api.OK {
			t.Errorf("%q %v %v", s, l, e)
		}
		checkParse(t, s)
	}
	for s, want := range map[string]api.Errno{
		" ":                           api.ErrName,
		"   ":                         api.ErrName,
		",":                           api.ErrName,
		"|":                           api.ErrName,
		" , ":                         api.ErrName,
		" | ":                         api.ErrName,
		"ab,":                         api.ErrName,
		",ab":                         api.ErrName,
		"ab, ":                        api.ErrName,
		"ab,,cd":                      api.ErrName,
		"ab, ,cd":                     api.ErrName,
		"ab|":                         api.ErrName,
		"|ab":                         api.ErrName,
		"ab||cd":                      api.ErrName,
		"ab,|cd":                      api.ErrName,
		"ef,ab (= 1)|cd (<< 2-1-3) ,": api.ErrName,
		"a":                           api.ErrName,
		"ab; cd":                      api.ErrName,
		"ab\t, cd":                    api.ErrName,
		"ab,\tcd":                     api.ErrName,
		"ab,\ncd":                     api.ErrName,
		"ab\n":                        api.ErrName,
		"ab,\xa0cd":                   api.ErrName,
		"ab,\u00a0cd":                 api.ErrName,
		"ab cd":                       api.ErrForm,
		"ab, cd ef":                   api.ErrForm,
		"ab (= 1) cd":                 api.ErrForm,
		"ab (=1)":                     api.ErrForm,
		"ab (":                        api.ErrForm,
		"ab (= 1,2)":                  api.ErrForm, // the mark cuts, wherever it stands
		"ab (= 1|2)":                  api.ErrForm,
		"ab (= x)":                    api.ErrVersion,
		"ab (= 1 )":                   api.ErrVersion,
		"ab (= 0:1)":                  api.ErrVersion,
	} {
		if l, e := depends.Parse(s); len(l) != 0 || e != want {
			t.Errorf("%q %v %v", s, l, e)
		}
		checkParse(t, s)
	}
}

// F1: of several errors that of the first piece is told, groups and atoms alike.
func TestParseFirst(t *testing.T) {
	pieces := map[string]api.Errno{"ab": api.OK, "A": api.ErrName, "ab (= x)": api.ErrVersion, "ab (": api.ErrForm, "": api.ErrName}
	for a, ea := range pieces {
		for b, eb := range pieces {
			for c, ec := range pieces {
				want := ea
				if want == api.OK {
					want = eb
				}
				if want == api.OK {
					want = ec
				}
				for _, marks := range [][2]string{{",", ","}, {",", "|"}, {"|", ","}, {"|", "|"}} {
					s := a + marks[0] + b + marks[1] + c
					l, e := depends.Parse(s)
					if e != want || (len(l) != 0) != (want == api.OK) {
						t.Errorf("%q %v %v", s, l, e)
					}
				}
			}
		}
	}
}

// F1: 12 parts and 6 pieces are taken, one more is ErrMany, whatever else is wrong.
func TestParseMany(t *testing.T) {
	for parts := range 15 {
		for _, piece := range []string{"ab", " ab ", "ab (= 1)", "", " ", "A", "ab (= x)", "ab ("} {
			s := strings.Repeat(piece+",", parts) + piece
			_, e := depends.Parse(s)
			if (e == api.ErrMany) != (parts+1 > 12) {
				t.Errorf("%q %v", s, e)
			}
			checkParse(t, s)
			for place := range 3 {
				group := strings.Repeat(piece+"|", parts) + piece
				s := strings.Repeat("A,", place) + group + strings.Repeat(", A", 2-place)
				if _, e := depends.Parse(s); (e == api.ErrMany) != (parts+1 > 6) {
					t.Errorf("%q %v", s, e)
				}
				checkParse(t, s)
			}
		}
	}
	full := strings.Repeat("ab|", 5) + "ab"
	all := strings.Repeat(full+",", 11) + full
	if e := checkParse(t, all); e != api.OK {
		t.Error(e)
	}
	for _, s := range []string{all + "|ab", "ab|" + all, all + ",ab", all + ",", all + "|", "A" + all + "|"} {
		if e := checkParse(t, s); e != api.ErrMany {
			t.Errorf("%q %v", s, e)
		}
	}
	// Pieces are counted by part: 12 times 6 of them are not too many, nor are 7 in two parts.
	if e := checkParse(t, "ab|ab|ab|ab,ab|ab|ab"); e != api.OK {
		t.Error(e)
	}
}

// F1: each of the 256 bytes at both ends of a piece: blanks alone are taken off, and marks alone cut.
func TestParseBytes(t *testing.T) {
	for c := range 256 {
		b := string([]byte{byte(c)})
		for _, s := range []string{b, b + "ab", "ab" + b, "ab," + b + "cd", "ab" + b + ",cd", "ab|" + b + "cd", "ab" + b + "|cd", "ab" + b + "cd", b + "ab (= 1)", "ab (= 1)" + b} {
			checkParse(t, s)
		}
		if _, e := depends.Parse(b + "ab (= 1)" + b); (e == api.OK) != (c == ' ') {
			t.Errorf("%q %v", b, e)
		}
	}
}

// F1, F2, F4: all rows of few pieces.
func TestParseAll(t *testing.T) {
	told := map[api.Errno]int{}
	for _, s := range rows([]string{"ab", "cd (= 1)", "A", "ef (= x)", " ", ",", "|", "("}, 5) {
		told[checkParse(t, s)]++
	}
	for _, s := range rows([]string{"ab", ",", "|"}, 9) {
		told[checkParse(t, s)]++
	}
	for _, s := range rows([]string{"|", ","}, 13) {
		told[checkParse(t, s)]++
	}
	for _, e := range []api.Errno{api.OK, api.ErrName, api.ErrVersion, api.ErrForm, api.ErrMany} {
		if told[e] < 100 {
			t.Error(e, told[e])
		}
	}
}

// F4: Parse of Print is the field, if it is right.
func TestPrintAll(t *testing.T) {
	atoms := rightAtoms()
	n := 0
	look := func(l []api.Group) {
		n++
		s := depends.Print(l)
		again, e := depends.Parse(s)
		if !depends.Right(l) || s != textOf(l) || !alike(again, l) || e != api.OK {
			t.Fatalf("%v %q %v %v", l, s, again, e)
		}
	}
	look(nil)
	for groups := 1; groups <= 12; groups++ {
		for size := 1; size <= 6; size++ {
			for from := range atoms {
				var l []api.Group
				for i := range groups {
					var g api.Group
					for j := range (size+i)%6 + 1 {
						g = append(g, atoms[(from+i*7+j)%len(atoms)])
					}
					l = append(l, g)
				}
				look(l)
			}
		}
	}
	if n < 700 {
		t.Error(n)
	}
}

// F2: Atoms takes what has no alternatives; Parse's error comes ahead of its own.
func TestAtoms(t *testing.T) {
	for s, want := range map[string][]api.Atom{
		"":                                nil,
		"ab":                              {ab},
		" ab ":                            {ab},
		"ab, cd (= 1)":                    {ab, atom("cd", api.Equal, "1")},
		"ef,cd , ab,ef":                   {ef, cd, ab, ef},
		"ab (>> 1), ab (<< 2)":            {atom("ab", api.More, "1"), atom("ab", api.Less, "2")},
		strings.Repeat("ab, ", 11) + "cd": append(slices.Repeat([]api.Atom{ab}, 11), cd),
	} {
		if l, e := depends.Atoms(s); !slices.Equal(l, want) || e != api.OK {
			t.Errorf("%q %v %v", s, l, e)
		}
	}
	for s, want := range map[string]api.Errno{
		"ab | cd":                        api.ErrForm,
		"ab|ab":                          api.ErrForm,
		"ef, ab | cd":                    api.ErrForm,
		"ab | cd, ef":                    api.ErrForm,
		"ef, ab | cd, ef":                api.ErrForm,
		strings.Repeat("ab|", 5) + "ab":  api.ErrForm,
		strings.Repeat("ab|", 6) + "ab":  api.ErrMany,
		strings.Repeat("ab,", 12) + "ab": api.ErrMany,
		"ab | cd," + strings.Repeat("ab,", 11) + "ab": api.ErrMany,
		" ":                  api.ErrName,
		"ab,":                api.ErrName,
		"ab |":               api.ErrName,
		"ab | cd, A":         api.ErrName,
		"ab | cd, ef (= x)":  api.ErrVersion,
		"ab | cd, ef (= 1":   api.ErrForm,
		"ab (= x), ab | cd":  api.ErrVersion,
		"ab (= 1 | cd (= 1)": api.ErrForm,
	} {
		if l, e := depends.Atoms(s); len(l) != 0 || e != want {
			t.Errorf("%q %v %v", s, l, e)
		}
	}
}

// F2: Join, and Atoms of it.
func TestJoin(t *testing.T) {
	for want, l := range map[string][]api.Atom{
		"":                    nil,
		"ab":                  {ab},
		"ab, cd (= 1)":        {ab, atom("cd", api.Equal, "1")},
		"ef, cd, ab, ef":      {ef, cd, ab, ef},
		"g++ (<< 1~), g++":    {atom("g++", api.Less, "1~"), {Name: "g++"}},
		"lib-x.y (>= 1:2-3+)": {atom("lib-x.y", api.AtLeast, "1:2-3+")},
	} {
		if s := depends.Join(l); s != want {
			t.Errorf("%q %q", want, s)
		}
	}
	for n := range 30 {
		l, want := slices.Repeat(rightAtoms(), 3)[:n], ""
		if n <= 12 {
			var groups []api.Group
			for _, a := range l {
				groups = append(groups, api.Group{a})
			}
			want = textOf(groups)
		}
		s := depends.Join(l)
		if s != want {
			t.Errorf("%d %q", n, s)
		}
		if again, e := depends.Atoms(s); n <= 12 && (!slices.Equal(again, l) || e != api.OK) {
			t.Errorf("%d %v %v", n, again, e)
		}
	}
	for _, a := range wrongAtoms() {
		for i, l := range [][]api.Atom{{a}, {ab, a}, {a, ab}, {ab, a, cd}} {
			if s := depends.Join(l); s != "" {
				t.Errorf("%d %v %q", i, a, s)
			}
		}
	}
}

// F3: Open, case by case.
func TestOpen(t *testing.T) {
	at := func(op int, v string) api.Atom { return atom("ab", op, v) }
	for i, c := range []struct {
		l    []api.Group
		have []api.Atom
		want []int
	}{
		{nil, nil, nil},
		{nil, []api.Atom{ab}, nil},
		{[]api.Group{{ab, cd}, {ef}}, []api.Atom{cd}, []int{1}},
		{[]api.Group{{ab, cd}, {ef}}, []api.Atom{ab}, []int{1}},
		{[]api.Group{{ab, cd}, {ef}}, []api.Atom{ef}, []int{0}},
		{[]api.Group{{ab, cd}, {ef}}, []api.Atom{ef, cd}, nil},
		{[]api.Group{{ab, cd}, {ef}}, nil, []int{0, 1}},
		{[]api.Group{{ab}, {cd}, {ab}}, []api.Atom{cd}, []int{0, 2}},
		{[]api.Group{{ab}, {cd}, {ab}}, []api.Atom{ab, ab}, []int{1}},
		{[]api.Group{{}, nil, {ab}}, []api.Atom{ab}, []int{0, 1}}, // a group of none has none that is met
		{[]api.Group{{ab}}, []api.Atom{at(api.Equal, "1")}, nil},
		{[]api.Group{{ab}}, []api.Atom{at(api.AtLeast, "1")}, nil}, // a name is enough, where no version is asked for
		{[]api.Group{{at(api.AtLeast, "1")}}, []api.Atom{ab}, []int{0}},
		{[]api.Group{{at(api.AtLeast, "1")}}, []api.Atom{at(api.Equal, "2")}, nil},
		{[]api.Group{{at(api.AtLeast, "2")}}, []api.Atom{at(api.Equal, "1")}, []int{0}},
		{[]api.Group{{at(api.Equal, "2")}}, []api.Atom{at(api.AtLeast, "2")}, []int{0}},
		{[]api.Group{{at(api.Equal, "1")}}, []api.Atom{at(api.Equal, "01-0")}, nil},
		{[]api.Group{{at(api.Equal, "x")}}, []api.Atom{at(api.Equal, "x")}, []int{0}},
		{[]api.Group{{at(api.AtLeast, "2"), cd}}, []api.Atom{at(api.Equal, "1"), at(api.Equal, "3")}, nil},
		{[]api.Group{{{Name: "A"}}, {{}}}, []api.Atom{{Name: "A"}}, []int{1}}, // it is not asked whether they are right
		{make([]api.Group, 14), []api.Atom{ab}, []int{0, 1, 2, 3, 4, 5, 6, 7, 8, 9, 10, 11, 12, 13}},
	} {
		if got := depends.Open(c.l, c.have); !slices.Equal(got, c.want) {
			t.Error(i, got)
		}
	}
}

// F3: all fields of two groups of two, with all that may be had of two, by relation.Provides.
func TestOpenAll(t *testing.T) {
	atoms := []api.Atom{{}, ab, cd, atom("ab", api.Equal, "1"), atom("ab", api.AtLeast, "2"), atom("cd", api.Less, "2"), atom("cd", api.Equal, "1~"), atom("ab", 6, "1")}
	var groups []api.Group
	for _, a := range atoms {
		for _, b := range atoms {
			groups = append(groups, api.Group{a, b})
		}
	}
	lengths := map[int]int{}
	for _, g := range groups {
		for _, h := range groups {
			for _, have := range groups {
				var want []int
				for i, group := range []api.Group{g, h} {
					n := 0
					for _, a := range group {
						for _, given := range have {
							if relation.Provides(a, given) {
								n++
							}
						}
					}
					if n == 0 {
						want = append(want, i)
					}
				}
				got := depends.Open([]api.Group{g, h}, have)
				if !slices.Equal(got, want) {
					t.Fatal(g, h, have, got)
				}
				lengths[len(got)]++
			}
		}
	}
	for n := range 3 {
		if lengths[n] < 1000 {
			t.Error(n, lengths[n])
		}
	}
}

// P1: texts and lists that are long.
func TestLong(t *testing.T) {
	for _, piece := range []string{"a", "ab", " ", ",", "|", "ab,", "ab|", "ab ,", " | ", "ab (= 1), ", "(", "\xff"} {
		long := strings.Repeat(piece, 1<<12)
		for _, s := range []string{long, "ab, " + long, "ab | " + long, long + ",", long + "|ab"} {
			checkParse(t, s)
		}
	}
	blanks := strings.Repeat(" ", 1<<16)
	for _, s := range []string{blanks + "ab", "ab" + blanks, blanks + "ab" + blanks + "," + blanks + "cd" + blanks + "|" + blanks + "ef"} {
		if e := checkParse(t, s); e != api.OK {
			t.Error(e)
		}
	}
	many := slices.Repeat([]api.Atom{ab}, 1<<16)
	if depends.Join(many) != "" || depends.Right([]api.Group{many}) || depends.Print([]api.Group{{ab}, many}) != "" {
		t.Error("atoms")
	}
	groups := slices.Repeat([]api.Group{{ab}}, 1<<16)
	if depends.Right(groups) || depends.Print(groups) != "" {
		t.Error("groups")
	}
	if l := depends.Open(groups, []api.Atom{cd}); len(l) != 1<<16 || l[0] != 0 || l[1<<16-1] != 1<<16-1 {
		t.Error(len(l))
	}
	if l := depends.Open([]api.Group{many, {cd}}, []api.Atom{ef, ab}); !slices.Equal(l, []int{1}) {
		t.Error(l)
	}
}

// P3: nothing that is handed in is written into, and what lies behind a list's length is not read.
func TestHandedIn(t *testing.T) {
	make2 := func() ([]api.Group, []api.Atom) {
		groups := []api.Group{api.Group{ab, atom("cd", api.Equal, "1"), {}}[:2], api.Group{ef, {Name: "A"}}[:1], {}, {ab}}
		atoms := []api.Atom{cd, atom("ef", api.Equal, "1"), ab, {Name: "A"}}
		return groups, atoms
	}
	groups, atoms := make2()
	if !depends.Right(groups[:2]) || depends.Print(groups[:2]) != "ab | cd (= 1), ef" {
		t.Error(depends.Print(groups[:2]))
	}
	if s := depends.Join(atoms[:2]); s != "cd, ef (= 1)" {
		t.Error(s)
	}
	if l := depends.Open(groups[:2], atoms[:2]); !slices.Equal(l, []int{0}) {
		t.Error(l)
	}
	sameGroups, sameAtoms := make2()
	if !reflect.DeepEqual(groups, sameGroups) || !reflect.DeepEqual(atoms, sameAtoms) {
		t.Error(groups, atoms)
	}
	for i, g := range groups {
		if !slices.Equal(g[:cap(g)], sameGroups[i][:cap(g)]) {
			t.Error(i, g[:cap(g)])
		}
	}
}

// P3: what is answered is new: no change of one list shows in another one.
func TestAnswered(t *testing.T) {
	const s = "ab | cd, ef, ab"
	want := []api.Group{{ab, cd}, {ef}, {ab}}
	l, _ := depends.Parse(s)
	for i := range l {
		other := slices.Clone(l)
		for j := range other {
			other[j] = slices.Clone(other[j])
		}
		for j := range l[i] {
			l[i][j] = api.Atom{Name: "changed"}
		}
		_ = append(l[i], api.Atom{Name: "behind"}, api.Atom{Name: "behind"}, api.Atom{Name: "behind"})
		for j := range l {
			if j != i && !slices.Equal(l[j], other[j]) {
				t.Error(i, j, l[j])
			}
		}
	}
	if again, e := depends.Parse(s); !alike(again, want) || e != api.OK {
		t.Error(again, e)
	}
	atoms, _ := depends.Atoms("ab, cd")
	atoms[0] = ef
	if again, e := depends.Atoms("ab, cd"); !slices.Equal(again, []api.Atom{ab, cd}) || e != api.OK {
		t.Error(again, e)
	}
	open := depends.Open(want, []api.Atom{ef})
	open[0] = 9
	if again := depends.Open(want, []api.Atom{ef}); !slices.Equal(again, []int{0, 2}) {
		t.Error(again)
	}
}

// P4: the same call answers the same, whatever came between.
func TestTwice(t *testing.T) {
	texts := []string{"", "ab", "ab | cd, ef", "ab,", "ab (= x)", "ab (", strings.Repeat(",", 12), "ab | cd, A"}
	type answer struct {
		groups []api.Group
		err    api.Errno
		text   string
		open   []int
	}
	var first []answer
	for round := range 3 {
		for i, s := range texts {
			l, err := depends.Parse(s)
			a := answer{l, err, depends.Print(l), depends.Open(l, []api.Atom{cd})}
			if round == 0 {
				first = append(first, a)
			}
			if !reflect.DeepEqual(first[i], a) {
				t.Errorf("%q %v", s, a)
			}
		}
	}
}
