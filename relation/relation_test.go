package relation_test

import (
	"cmp"
	"math"
	"regexp"
	"slices"
	"strings"
	"testing"

	"keelson/api"
	"keelson/relation"
	"keelson/version"
)

// bounds are the operators that ask for a version, with their signs as the chapter says them.
var bounds = map[int]string{1: "<<", 2: "<=", 3: "=", 4: ">=", 5: ">>"}

// operators are all that there are, and numbers that are none.
var operators = []int{api.Any, api.Less, api.AtMost, api.Equal, api.AtLeast, api.More, -1, 6, -5, 1 << 32, 1<<32 + 3, math.MaxInt, math.MinInt, math.MinInt + 1}

// classes are texts of versions: those of one class are the same in the order, those of a later one greater.
func classes() [][]string {
	return [][]string{
		{"0~~"},
		{"0~", "0~0", "00~", "0:0~"},
		{"0", "00", "0:0", "0-0", "0:0-00"},
		{"1~rc1"},
		{"1", "01", "1-0", "0:1", "0:01-0"},
		{"1-1", "01-01"},
		{"1a"},
		{"1+"},
		{"1.1"},
		{"9"},
		{"10"},
		{"1:0", "1:0-0"},
		{"1:0:1"},
		{"10:0"},
		{"999999999:" + strings.Repeat("9", 50)},
	}
}

// noVersions are texts that version.Parse does not take.
func noVersions() []string {
	return []string{"", "x", "1-", "0:1:1", "1 ", " 1", "a1", ":", "1000000000:1", "1\x00", "1\xff", strings.Repeat("9", 61), "0:" + strings.Repeat("9", 59), strings.Repeat("9", 1<<16)}
}

var nameForm = regexp.MustCompile(`\A[a-z0-9][a-z0-9+.-]{1,39}\z`)

// rightOf is the chapter's word, said once more.
func rightOf(a api.Atom) bool {
	if !nameForm.MatchString(a.Name) {
		return false
	}
	if a.Op == api.Any {
		return a.Version == ""
	}
	v, _ := version.Parse(a.Version)
	return bounds[a.Op] != "" && version.Right(v) && version.Print(v) == a.Version
}

// textOf puts an atom together, be it right or not.
func textOf(a api.Atom) string {
	if a.Op == api.Any {
		return a.Name
	}
	return a.Name + " (" + bounds[a.Op] + " " + a.Version + ")"
}

// atomsOf are all right atoms of which s is the text, by all ways to take it apart.
func atomsOf(s string) []api.Atom {
	var l []api.Atom
	look := func(a api.Atom) {
		if rightOf(a) && textOf(a) == s {
			l = append(l, a)
		}
	}
	look(api.Atom{Name: s})
	for op := range bounds {
		for i := range len(s) {
			for j := i; j < len(s); j++ {
				look(api.Atom{Name: s[:i], Op: op, Version: s[j : len(s)-1]})
			}
		}
	}
	return l
}

// errorOf is what Parse tells of a text that is no right atom's.
func errorOf(s string) api.Errno {
	name := strings.SplitN(s, " ", 2)[0]
	if !nameForm.MatchString(name) {
		return api.ErrName
	}
	for _, sign := range bounds {
		behind, found := strings.CutPrefix(s, name+" ("+sign+" ")
		if found && strings.HasSuffix(behind, ")") {
			return api.ErrVersion
		}
	}
	return api.ErrForm
}

// rows are all texts of at most n pieces, of these.
func rows(pieces []string, n int) []string {
	l := []string{""}
	for from := 0; n > 0; n-- {
		to := len(l)
		for _, s := range l[from:to] {
			for _, p := range pieces {
				l = append(l, s+p)
			}
		}
		from = to
	}
	slices.Sort(l)
	return slices.Compact(l)
}

// L1: each of the 256 bytes, as the first one, between others, and as the last one.
func TestNameBytes(t *testing.T) {
	for c := range 256 {
		b := string([]byte{byte(c)})
		first := 'a' <= c && c <= 'z' || '0' <= c && c <= '9'
		behind := first || c == '+' || c == '-' || c == '.'
		for s, want := range map[string]bool{b + "a": first, b + "0b": first, "a" + b: behind, "0" + b + "b": behind, "ab" + b: behind, b: false} {
			if relation.Name(s) != want {
				t.Errorf("%q", s)
			}
		}
	}
}

// L1: a name has 2 to 40 bytes.
func TestNameLength(t *testing.T) {
	for _, piece := range []string{"a", "0", "9", "z", "a+", "0-", "b."} {
		for n := range 100 {
			s := strings.Repeat(piece, n)[:n]
			if relation.Name(s) != (2 <= n && n <= 40) {
				t.Errorf("%q", s)
			}
		}
	}
	for _, s := range []string{"a ", " a", "ab\n", "\nab", "ab\x00", "a_b", "aB", "Ab", "ä1", "a\xff", "a:b", "a~b", "a(b", strings.Repeat("a", 1<<20)} {
		if relation.Name(s) {
			t.Errorf("%.50q", s)
		}
	}
}

// L1: the signs, and that nothing else is one.
func TestOpAndSign(t *testing.T) {
	for op, sign := range map[int]string{api.Less: "<<", api.AtMost: "<=", api.Equal: "=", api.AtLeast: ">=", api.More: ">>"} {
		if n, ok := relation.Op(sign); n != op || !ok {
			t.Error(sign, n, ok)
		}
		if s := relation.Sign(op); s != sign {
			t.Error(op, s)
		}
	}
	signs := 0
	for _, s := range rows([]string{"<", "=", ">", " ", "~", "\x00", "!"}, 3) {
		op, ok := relation.Op(s)
		switch {
		case !ok && op != 0:
			t.Errorf("%q %d", s, op)
		case ok && (op < 1 || op > 5 || relation.Sign(op) != s):
			t.Errorf("%q %d", s, op)
		case ok:
			signs++
		}
	}
	if signs != 5 {
		t.Error(signs)
	}
	for _, s := range []string{"", "≤", "eq", "0", "1", "ab", strings.Repeat("<", 1<<20)} {
		if op, ok := relation.Op(s); op != 0 || ok {
			t.Errorf("%.50q %d %v", s, op, ok)
		}
	}
	for _, op := range append([]int{7, 100, -2, -1 << 62, math.MaxInt - 1}, operators...) {
		if s := relation.Sign(op); s != bounds[op] {
			t.Error(op, s)
		}
	}
}

// L1: Right, what each word of it asks for by itself, and Print of what is not right.
func TestRight(t *testing.T) {
	long := strings.Repeat("9", 60)
	for i, c := range []struct {
		a    api.Atom
		want string
	}{
		{api.Atom{}, ""},
		{api.Atom{Name: "ab"}, "ab"},
		{api.Atom{Name: "0+"}, "0+"},
		{api.Atom{Name: "a"}, ""},
		{api.Atom{Name: "+0"}, ""},
		{api.Atom{Name: "a b"}, ""},
		{api.Atom{Name: strings.Repeat("a", 40)}, strings.Repeat("a", 40)},
		{api.Atom{Name: strings.Repeat("a", 41)}, ""},
		{api.Atom{Name: "ab", Version: "1"}, ""},
		{api.Atom{Name: "ab", Version: " "}, ""},
		{api.Atom{Name: "ab", Op: api.Equal}, ""},
		{api.Atom{Name: "ab", Op: api.Equal, Version: "1"}, "ab (= 1)"},
		{api.Atom{Name: "ab", Op: api.Less, Version: "1:2-3~"}, "ab (<< 1:2-3~)"},
		{api.Atom{Name: "ab", Op: api.AtMost, Version: "2-1-3"}, "ab (<= 2-1-3)"},
		{api.Atom{Name: "ab", Op: api.AtLeast, Version: "007"}, "ab (>= 007)"},
		{api.Atom{Name: "ab", Op: api.More, Version: "1:0:1"}, "ab (>> 1:0:1)"},
		{api.Atom{Name: "ab", Op: api.Equal, Version: "0:1"}, ""}, // taken by version.Parse, but never printed
		{api.Atom{Name: "ab", Op: api.Equal, Version: "x"}, ""},
		{api.Atom{Name: "ab", Op: api.Equal, Version: "1-"}, ""},
		{api.Atom{Name: "ab", Op: api.Equal, Version: "1 "}, ""},
		{api.Atom{Name: "ab", Op: api.Equal, Version: "1)"}, ""},
		{api.Atom{Name: "ab", Op: api.Equal, Version: long}, "ab (= " + long + ")"},
		{api.Atom{Name: "ab", Op: api.Equal, Version: long + "9"}, ""},
		{api.Atom{Name: "ab", Op: api.Equal, Version: "0:" + long[2:]}, ""},
		{api.Atom{Name: "a", Op: api.Equal, Version: "1"}, ""},
		{api.Atom{Op: api.Equal, Version: "1"}, ""},
		{api.Atom{Name: "ab", Op: 6, Version: "1"}, ""},
		{api.Atom{Name: "ab", Op: 6}, ""},
		{api.Atom{Name: "ab", Op: -1, Version: "1"}, ""},
		{api.Atom{Name: "ab", Op: -1}, ""},
	} {
		if relation.Right(c.a) != (c.want != "") {
			t.Error(i)
		}
		if s := relation.Print(c.a); s != c.want {
			t.Errorf("%d %q", i, s)
		}
	}
}

// L1, L2: of atoms of all kinds: Right, Print, and Parse of Print.
func TestPrintAll(t *testing.T) {
	names := []string{"", "a", "ab", "A", "+a", "a+", "a b", "a (", "ab (= 1)", strings.Repeat("a", 40), strings.Repeat("a", 41), "ab\n"}
	versions := append(slices.Concat(classes()...), noVersions()...)
	taken := 0
	for _, name := range names {
		for _, op := range operators {
			for _, v := range versions {
				a, want := api.Atom{Name: name, Op: op, Version: v}, ""
				if rightOf(a) {
					want = textOf(a)
					taken++
					if p, e := relation.Parse(want); p != a || e != api.OK {
						t.Errorf("%#v %v %v", a, p, e)
					}
				}
				if relation.Right(a) != (want != "") || relation.Print(a) != want {
					t.Errorf("%#v %q", a, relation.Print(a))
				}
			}
		}
	}
	if taken < 200 {
		t.Error(taken)
	}
}

// L2: Parse, at what may be taken for something else.
func TestParse(t *testing.T) {
	long, longName := strings.Repeat("9", 60), strings.Repeat("a", 40)
	for s, want := range map[string]struct {
		a api.Atom
		e api.Errno
	}{
		"ab":                        {a: api.Atom{Name: "ab"}},
		"ab (<< 1)":                 {a: api.Atom{Name: "ab", Op: api.Less, Version: "1"}},
		"ab (<= 1)":                 {a: api.Atom{Name: "ab", Op: api.AtMost, Version: "1"}},
		"ab (= 1)":                  {a: api.Atom{Name: "ab", Op: api.Equal, Version: "1"}},
		"ab (>= 1.0)":               {a: api.Atom{Name: "ab", Op: api.AtLeast, Version: "1.0"}},
		"ab (>> 1:2~-3+)":           {a: api.Atom{Name: "ab", Op: api.More, Version: "1:2~-3+"}},
		"0. (= " + long + ")":       {a: api.Atom{Name: "0.", Op: api.Equal, Version: long}},
		longName:                    {a: api.Atom{Name: longName}},
		longName + " (= 1)":         {a: api.Atom{Name: longName, Op: api.Equal, Version: "1"}},
		"":                          {e: api.ErrName},
		" ":                         {e: api.ErrName},
		"a":                         {e: api.ErrName},
		"A":                         {e: api.ErrName},
		"a (= 1)":                   {e: api.ErrName},
		" ab":                       {e: api.ErrName},
		" (= 1)":                    {e: api.ErrName},
		"(= 1)":                     {e: api.ErrName},
		"ab(= 1)":                   {e: api.ErrName},
		"ab(":                       {e: api.ErrName},
		"ab\t(= 1)":                 {e: api.ErrName},
		"ab\n":                      {e: api.ErrName},
		"ab,":                       {e: api.ErrName},
		longName + "a":              {e: api.ErrName},
		longName + "a (= x)":        {e: api.ErrName},
		"Ab (= x)":                  {e: api.ErrName},
		"Ab (":                      {e: api.ErrName},
		"ab (= )":                   {e: api.ErrVersion},
		"ab (= x)":                  {e: api.ErrVersion},
		"ab (>= x)":                 {e: api.ErrVersion},
		"ab (= 0:1)":                {e: api.ErrVersion},
		"ab (= 1-)":                 {e: api.ErrVersion},
		"ab (=  1)":                 {e: api.ErrVersion},
		"ab (=  )":                  {e: api.ErrVersion},
		"ab (= 1 )":                 {e: api.ErrVersion},
		"ab (= 1))":                 {e: api.ErrVersion},
		"ab (= ))":                  {e: api.ErrVersion},
		"ab (= 1) )":                {e: api.ErrVersion},
		"ab (= 1) (= 1)":            {e: api.ErrVersion},
		"ab (= 1\n)":                {e: api.ErrVersion},
		"ab (<< << 1)":              {e: api.ErrVersion},
		"ab (= " + long + "9)":      {e: api.ErrVersion},
		"ab (= 0:" + long[2:] + ")": {e: api.ErrVersion},
		"ab ":                       {e: api.ErrForm},
		"ab  ":                      {e: api.ErrForm},
		"ab cd":                     {e: api.ErrForm},
		"ab (":                      {e: api.ErrForm},
		"ab )":                      {e: api.ErrForm},
		"ab ()":                     {e: api.ErrForm},
		"ab ( )":                    {e: api.ErrForm},
		"ab (=)":                    {e: api.ErrForm},
		"ab (=1)":                   {e: api.ErrForm},
		"ab (1)":                    {e: api.ErrForm},
		"ab ( 1)":                   {e: api.ErrForm},
		"ab ( = 1)":                 {e: api.ErrForm},
		"ab (< 1)":                  {e: api.ErrForm},
		"ab (== 1)":                 {e: api.ErrForm},
		"ab (=< 1)":                 {e: api.ErrForm},
		"ab (=\t1)":                 {e: api.ErrForm},
		"ab (= 1":                   {e: api.ErrForm},
		"ab (= ":                    {e: api.ErrForm},
		"ab = 1)":                   {e: api.ErrForm},
		"ab = 1":                    {e: api.ErrForm},
		"ab (= 1) ":                 {e: api.ErrForm},
		"ab (= 1)\n":                {e: api.ErrForm},
		"ab  (= 1)":                 {e: api.ErrForm},
		"ab (= 1) | cd":             {e: api.ErrForm},
	} {
		if a, e := relation.Parse(s); a != want.a || e != want.e {
			t.Errorf("%q %v %v", s, a, e)
		}
	}
}

// L2, L5: all rows of few pieces: Parse takes just those that are texts of right atoms, and Print gives them back.
func TestParseAll(t *testing.T) {
	told := map[api.Errno]int{}
	look := func(s string) {
		var want api.Atom
		wantErr := api.OK
		switch l := atomsOf(s); len(l) {
		case 0:
			wantErr = errorOf(s)
		case 1:
			want = l[0]
		default:
			t.Fatalf("%q is the text of %v", s, l)
		}
		told[wantErr]++
		a, e := relation.Parse(s)
		if a != want || e != wantErr {
			t.Fatalf("%q %v %v", s, a, e)
		}
		if e == api.OK && (!relation.Right(a) || relation.Print(a) != s) {
			t.Fatalf("%q %v %q", s, a, relation.Print(a))
		}
	}
	for _, s := range rows([]string{"ab", "A", " ", "(", ")", "=", ">", "1"}, 5) {
		look(s)
	}
	for _, s := range rows([]string{" ", "(", ")", "=", "<<", "<", "1", "0:", "x", "~"}, 4) {
		look("ab " + s + ")")
		look("ab (" + s)
		look("ab (" + s + ")")
		look("ab (>= " + s + ")")
	}
	for _, e := range []api.Errno{api.OK, api.ErrName, api.ErrVersion, api.ErrForm} {
		if told[e] < 100 {
			t.Error(e, told[e])
		}
	}
}

// P1: long texts.
func TestParseLong(t *testing.T) {
	for _, piece := range []string{"a", " ", "(", ")", "=", "1", "ab (= 1)", " (= ", "\xff"} {
		long := strings.Repeat(piece, 1<<16)
		for _, s := range []string{long, "ab " + long, "ab (" + long, "ab (= " + long, "ab (= " + long + ")"} {
			if a, e := relation.Parse(s); a != (api.Atom{}) || e != errorOf(s) {
				t.Errorf("%.50q %v", s, e)
			}
		}
	}
}

// holdsOf tells by a number how two versions stand.
func holdsOf(op, c int) bool {
	switch op {
	case 0:
		return true
	case 1:
		return c < 0
	case 2:
		return c <= 0
	case 3:
		return c == 0
	case 4:
		return c >= 0
	case 5:
		return c > 0
	}
	return false
}

// L3: Holds of all pairs of versions, by the places of their classes.
func TestHolds(t *testing.T) {
	for i, above := range classes() {
		for j, below := range classes() {
			for _, have := range above {
				for _, want := range below {
					for _, op := range operators {
						if relation.Holds(op, have, want) != holdsOf(op, cmp.Compare(i, j)) {
							t.Errorf("%d %q %q", op, have, want)
						}
					}
				}
			}
		}
	}
}

// L3: of what is no version nothing holds, but for Any.
func TestHoldsOfOthers(t *testing.T) {
	for _, x := range noVersions() {
		for _, y := range append([]string{"1", "0~~", "1:0", "0:1"}, noVersions()...) {
			for _, op := range operators {
				if relation.Holds(op, x, y) != (op == api.Any) {
					t.Errorf("%d %.50q %.50q", op, x, y)
				}
				if relation.Holds(op, y, x) != (op == api.Any) {
					t.Errorf("%d %.50q %.50q", op, y, x)
				}
			}
		}
	}
}

// L3: Meets asks for the name, then Holds says the rest, whatever the texts are.
func TestMeets(t *testing.T) {
	names := []string{"ab", "cd", "", "A", "ab "}
	versions := []string{"1", "01", "2", "1~", "x", ""}
	for _, op := range operators {
		for _, name := range names {
			for _, other := range names {
				for _, have := range versions {
					for _, want := range versions {
						a := api.Atom{Name: name, Op: op, Version: want}
						if relation.Meets(a, other, have) != (name == other && relation.Holds(op, have, want)) {
							t.Errorf("%#v %q %q", a, other, have)
						}
					}
				}
			}
		}
	}
	for i, c := range []struct {
		a          api.Atom
		name, have string
		want       bool
	}{
		{api.Atom{Name: "ab"}, "ab", "1", true},
		{api.Atom{Name: "ab"}, "ab", "x", true},
		{api.Atom{Name: "ab"}, "abc", "1", false},
		{api.Atom{Name: "abc"}, "ab", "1", false},
		{api.Atom{Name: "ab", Op: api.AtLeast, Version: "2"}, "ab", "1", false}, // the package's version is the first one
		{api.Atom{Name: "ab", Op: api.AtLeast, Version: "1"}, "ab", "2", true},
		{api.Atom{Name: "ab", Op: api.AtLeast, Version: "1"}, "cd", "2", false},
		{api.Atom{Name: "ab", Op: api.Equal, Version: "1"}, "ab", "0:1-0", true},
	} {
		if relation.Meets(c.a, c.name, c.have) != c.want {
			t.Error(i)
		}
	}
}

// L4: what is given has a version just if its operator is Equal.
func TestProvides(t *testing.T) {
	names := []string{"ab", "cd", "", "A"}
	versions := []string{"1", "01", "2", "x", ""}
	for _, op := range operators {
		for _, givenOp := range operators {
			for _, want := range versions {
				for _, have := range versions {
					for _, name := range names {
						for _, other := range names {
							a := api.Atom{Name: name, Op: op, Version: want}
							given := api.Atom{Name: other, Op: givenOp, Version: have}
							met := name == other && (op == 0 || givenOp == 3 && relation.Holds(op, have, want))
							if relation.Provides(a, given) != met {
								t.Fatalf("%#v %#v", a, given)
							}
						}
					}
				}
			}
		}
	}
	for i, c := range []struct {
		a, given api.Atom
		want     bool
	}{
		{api.Atom{Name: "ab"}, api.Atom{Name: "ab"}, true},
		{api.Atom{Name: "ab"}, api.Atom{Name: "ab", Op: api.Equal, Version: "2"}, true},
		{api.Atom{Name: "ab"}, api.Atom{Name: "cd"}, false},
		{api.Atom{Name: "ab", Op: api.Equal, Version: "1"}, api.Atom{Name: "ab"}, false},
		{api.Atom{Name: "ab", Op: api.AtLeast, Version: "1"}, api.Atom{Name: "ab", Op: api.Equal, Version: "2"}, true},
		{api.Atom{Name: "ab", Op: api.AtLeast, Version: "2"}, api.Atom{Name: "ab", Op: api.Equal, Version: "1"}, false},
		{api.Atom{Name: "ab", Op: api.Equal, Version: "2"}, api.Atom{Name: "ab", Op: api.AtLeast, Version: "2"}, false},
		{api.Atom{Name: "ab", Op: api.AtLeast, Version: "1"}, api.Atom{Name: "cd", Op: api.Equal, Version: "2"}, false},
		{api.Atom{Name: "ab", Op: api.Equal, Version: "x"}, api.Atom{Name: "ab", Op: api.Equal, Version: "x"}, false},
	} {
		if relation.Provides(c.a, c.given) != c.want {
			t.Error(i)
		}
	}
}

// L5: of two versions one of <<, =, >> holds, and no two; <= is << or =, >= is >> or =.
func TestHoldsTogether(t *testing.T) {
	l := slices.Concat(classes()...)
	for _, s := range rows([]string{"0", "1", "a", "~", ".", "-", ":"}, 3) {
		if _, e := version.Parse(s); e == api.OK {
			l = append(l, s)
		}
	}
	if len(l) < 50 {
		t.Error(len(l))
	}
	for _, x := range l {
		for _, y := range l {
			less, equal, more := relation.Holds(api.Less, x, y), relation.Holds(api.Equal, x, y), relation.Holds(api.More, x, y)
			n := 0
			for _, holds := range []bool{less, equal, more} {
				if holds {
					n++
				}
			}
			if n != 1 || relation.Holds(api.AtMost, x, y) != (less || equal) || relation.Holds(api.AtLeast, x, y) != (more || equal) {
				t.Fatalf("%q %q", x, y)
			}
			if relation.Holds(api.More, y, x) != less || relation.Holds(api.Equal, y, x) != equal {
				t.Fatalf("%q %q", x, y)
			}
		}
	}
}

// P4: the same call answers the same, whatever came between.
func TestTwice(t *testing.T) {
	texts := []string{"ab", "ab (= 1)", "ab (= x)", "ab (", "A"}
	type answer struct {
		a api.Atom
		e api.Errno
	}
	var first []answer
	for round := range 3 {
		for i, s := range texts {
			a, e := relation.Parse(s)
			if round == 0 {
				first = append(first, answer{a, e})
			}
			if first[i] != (answer{a, e}) {
				t.Errorf("%q %v %v", s, a, e)
			}
		}
	}
}
