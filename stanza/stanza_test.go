package stanza_test

import (
	"bytes"
	"reflect"
	"regexp"
	"slices"
	"strconv"
	"strings"
	"testing"

	"keelson/api"
	"keelson/stanza"
)

// f is a field.
func f(name, value string) api.Field { return api.Field{Name: name, Value: value} }

// fields has n fields of different names, each with the value x.
func fields(n int) stanza.Stanza {
	st := stanza.Stanza{}
	for i := range n {
		st = append(st, f("F"+strconv.Itoa(i), "x"))
	}
	return st
}

// The chapter's words once more. A class of characters that leaves some out has the bytes that are no runes too.
var (
	nameForm  = regexp.MustCompile(`^[A-Za-z][A-Za-z0-9-]{0,39}$`)
	valueForm = regexp.MustCompile("^([^\x00-\x20][^\x00-\x1f]*)?(\n[^\x00-\x1f]+)*$")
	fieldForm = regexp.MustCompile(`^([A-Za-z][A-Za-z0-9-]{0,39}): *((?s:.*))$`)
	lowForm   = regexp.MustCompile("[\x00-\x1f]")
	lineForm  = regexp.MustCompile(`(?s)\n(.)`)
)

// textOf is the chapter's text, whether the stanzas are right or not.
func textOf(l []stanza.Stanza) string {
	var texts []string
	for _, st := range l {
		var s []string
		for _, x := range st {
			s = append(s, x.Name, ":")
			for i, line := range strings.SplitAfter(x.Value+"\n", "\n") {
				if line != "" && (i > 0 || line != "\n") {
					s = append(s, " ")
				}
				s = append(s, line)
			}
		}
		texts = append(texts, strings.Join(s, ""))
	}
	return strings.Join(texts, "\n")
}

// rightOf is Right as the chapter says it, said once more.
func rightOf(l []stanza.Stanza) bool {
	if len(l) > 200 || len(textOf(l)) > 60000 {
		return false
	}
	for _, st := range l {
		names := map[string]bool{}
		for _, x := range st {
			if !nameForm.MatchString(x.Name) || !valueForm.MatchString(x.Value) {
				return false
			}
			names[x.Name] = true
		}
		if len(st) < 1 || len(st) > 40 || len(names) != len(st) {
			return false
		}
	}
	return true
}

// parseOf is Parse as the chapter says it, said once more.
func parseOf(s string) ([]stanza.Stanza, int, api.Errno) {
	if len(s) > 60000 {
		return nil, 0, api.ErrLong
	}
	var l []stanza.Stanza
	open := false
	number := 0
	for s != "" {
		var line string
		line, s, _ = strings.Cut(s, "\n")
		number++
		if lowForm.MatchString(line) {
			return nil, number, api.ErrForm
		}
		if line == "" {
			open = false
			continue
		}
		if line[0] == ' ' {
			if !open || line == " " {
				return nil, number, api.ErrForm
			}
			last := l[len(l)-1]
			last[len(last)-1].Value += "\n" + line[1:]
			continue
		}
		m := fieldForm.FindStringSubmatch(line)
		if m == nil {
			return nil, number, api.ErrForm
		}
		if !open {
			l = append(l, nil)
			open = true
		}
		last := &l[len(l)-1]
		for _, x := range *last {
			if x.Name == m[1] {
				return nil, number, api.ErrThere
			}
		}
		*last = append(*last, f(m[1], m[2]))
		if len(*last) > 40 || len(l) > 200 {
			return nil, number, api.ErrMany
		}
	}
	return l, 0, api.OK
}

// alike holds stanzas against one another: of a list of nothing it does not ask whether it is nil.
func alike(a, b []stanza.Stanza) bool {
	return slices.EqualFunc(a, b, func(x, y stanza.Stanza) bool { return slices.Equal(x, y) })
}

// checkParse holds Parse of one text against parseOf, and Print of what was parsed (N4) with it.
func checkParse(t *testing.T, s string) api.Errno {
	t.Helper()
	want, wantLine, wantErr := parseOf(s)
	l, line, err := stanza.Parse(s)
	if !alike(l, want) || line != wantLine || err != wantErr {
		t.Fatalf("%.300q %.300v %d %v, not %.300v %d %v", s, l, line, err, want, wantLine, wantErr)
	}
	if err == api.OK {
		checkPrint(t, l)
	}
	return err
}

// checkPrint holds Right and Print of stanzas against the second telling, and Parse of Print with it (N4).
func checkPrint(t *testing.T, l []stanza.Stanza) bool {
	t.Helper()
	right, want := rightOf(l), ""
	if right {
		want = textOf(l)
	}
	if s := stanza.Print(l); s != want || stanza.Right(l) != right {
		t.Fatalf("%.300v %.300q %v, not %.300q %v", l, s, !right, want, right)
	}
	if again, line, err := stanza.Parse(want); right && (!alike(again, l) || line != 0 || err != api.OK) {
		t.Fatalf("%.300v %.300v %d %v", l, again, line, err)
	}
	return right
}

// rows are all texts of at most n pieces, of these.
func rows(pieces []string, n int) []string {
	l := []string{""}
	for from := 0; n > 0; n-- {
		to := len(l)
		for _, s := range l[from:to] {
			for _, p := range pieces {
				l = append(l, s+p)
			}
		}
		from = to
	}
	slices.Sort(l)
	return slices.Compact(l)
}

// N1: Name, at every length, and each of the 256 bytes at its beginning and behind it.
func TestName(t *testing.T) {
	for s, want := range map[string]bool{
		"A": true, "z": true, "Pin-Priority": true, "a1": true, "a-": true, "A--9": true, "Z0": true, strings.Repeat("Z", 40): true,
		"": false, "1": false, "-": false, "1a": false, "-a": false, " a": false, "a ": false, "a b": false, "a:": false, ":": false, "a_b": false, "a.b": false, "a\n": false, "\na": false, "é": false, "aé": false, strings.Repeat("Z", 41): false,
	} {
		if stanza.Name(s) != want {
			t.Errorf("%q", s)
		}
	}
	for n := range 90 {
		if stanza.Name(strings.Repeat("a", n)) != (1 <= n && n <= 40) || stanza.Name("a"+strings.Repeat("-", n)) != (n <= 39) {
			t.Error(n)
		}
	}
	const letters = "ABCDEFGHIJKLMNOPQRSTUVWXYZabcdefghijklmnopqrstuvwxyz"
	for c := range 256 {
		b := []byte{byte(c)}
		first := bytes.Contains([]byte(letters), b)
		later := bytes.Contains([]byte(letters+"0123456789-"), b)
		if stanza.Name(string(b)) != first || stanza.Name(string(b)+"a") != first {
			t.Errorf("%q", b)
		}
		for i := 1; i < 40; i++ {
			s := strings.Repeat("x", i) + string(b) + strings.Repeat("x", 39-i)
			if stanza.Name(s) != later {
				t.Errorf("%q %d", b, i)
			}
		}
	}
}

// N1: which names of fields make stanzas right.
func TestRightNames(t *testing.T) {
	for _, name := range []string{"", "A", "a-1", "1", "-", "A b", "A:", ":", "A\n", "\nA", " A", "é", "\xff", strings.Repeat("a", 40), strings.Repeat("a", 41)} {
		for place := range 3 {
			st := stanza.Stanza{f("X", "1"), f("Y", "2"), f("Z", "3")}
			st[place].Name = name
			for i, l := range [][]stanza.Stanza{{st}, {{f("X", "")}, st}, {st, {f("X", "")}}} {
				if checkPrint(t, l) != stanza.Name(name) {
					t.Errorf("%q %d", name, i)
				}
			}
		}
	}
	for i, st := range []stanza.Stanza{
		{f("A", "1"), f("A", "1")},
		{f("A", "1"), f("A", "2")},
		{f("A", ""), f("B", ""), f("A", "")},
		{f("B", ""), f("A", ""), f("C", ""), f("A", "")},
		append(fields(39), f("F0", "x")),
		append(fields(39), f("F38", "x")),
	} {
		if checkPrint(t, []stanza.Stanza{st}) {
			t.Error(i)
		}
	}
	// Names are held against one another byte by byte, and in one stanza alone.
	for i, l := range [][]stanza.Stanza{{{f("A", ""), f("a", "")}}, {{f("A", "")}, {f("A", "")}}, {{f("A", ""), f("A-", ""), f("A0", ""), f("AA", "")}}} {
		if !checkPrint(t, l) {
			t.Error(i)
		}
	}
}

// N1: which values make stanzas right.
func TestRightValues(t *testing.T) {
	for v, want := range map[string]bool{
		"": true, "x": true, "x y": true, "x ": true, ":": true, "x: y": true, "x\ny": true, "\ny": true, "\n\x20": true, "x\n y": true, "x\n  ": true, "x\ny\nz": true, "\x7f": true, "\xff": true, "\x80\n\xc3\n\xc3\xa9": true, "x\nA: y": true, "\n:": true,
		" ": false, " x": false, "  x": false, "\n": false, "x\n": false, "x\n\n": false, "x\n\ny": false, "\n\ny": false, "x\ny\n": false, "\t": false, "x\t": false, "x\ny\t": false, "x\r\ny": false, "x\r": false, "\x00": false, "x\x1f": false, "x\n\x1f": false, " \nx": false,
	} {
		for _, st := range []stanza.Stanza{{f("A", v)}, {f("A", v), f("B", "x")}, {f("B", "x"), f("A", v)}} {
			for i, l := range [][]stanza.Stanza{{st}, {st, {f("X", "")}}, {{f("X", "")}, st}} {
				if checkPrint(t, l) != want {
					t.Errorf("%q %d", v, i)
				}
			}
		}
	}
	for c := range 256 {
		b := string([]byte{byte(c)})
		for place, v := range []string{b, b + "x", "x" + b, "x" + b + "x", "x\n" + b, "\n" + b + "x", "x\nx" + b, "x\nx\nx" + b + "x\nx"} {
			want := c >= 32
			switch {
			case c == ' ':
				want = place > 1 // no blank at the beginning of the first line
			case c == '\n':
				want = place == 1 || place == 3 || place == 7 // no other line may be empty
			}
			if checkPrint(t, []stanza.Stanza{{f("A", v)}}) != want {
				t.Errorf("%q", v)
			}
		}
	}
	right := 0
	for _, v := range rows([]string{"x", " ", "\n", "\t"}, 7) {
		if checkPrint(t, []stanza.Stanza{{f("A", v), f("B", v)}, {f("A", v)}}) {
			right++
		}
	}
	if right < 500 {
		t.Error(right)
	}
}

// N1: how many fields, how many stanzas.
func TestRightSizes(t *testing.T) {
	for n := range 90 {
		st := fields(n)
		for i, l := range [][]stanza.Stanza{{st}, {fields(1), st}, {st, fields(1)}} {
			if checkPrint(t, l) != (1 <= n && n <= 40) {
				t.Error(n, i)
			}
		}
	}
	for _, n := range []int{0, 1, 2, 40, 41, 199, 200, 201, 202, 400} {
		l := slices.Repeat([]stanza.Stanza{fields(2)}, n)
		if checkPrint(t, l) != (n <= 200) {
			t.Error(n)
		}
		if n > 0 && n <= 200 {
			l[n-1] = nil
			if checkPrint(t, l) {
				t.Error(n)
			}
		}
	}
	if !stanza.Right(nil) || !stanza.Right([]stanza.Stanza{}) || stanza.Print(nil) != "" || stanza.Print([]stanza.Stanza{}) != "" {
		t.Error("of no stanzas the text is empty, and right")
	}
	full := slices.Repeat([]stanza.Stanza{fields(40)}, 170)
	if !checkPrint(t, full) {
		t.Error("170 stanzas of 40 fields")
	}
}

// N1: 60000 bytes of text are right, one more is not, whichever part of the text it is.
func TestRightLong(t *testing.T) {
	for _, c := range []struct {
		bytes int // of the text around n bytes
		make  func(n int) []stanza.Stanza
	}{
		{4, func(n int) []stanza.Stanza { return []stanza.Stanza{{f("A", strings.Repeat("x", n))}} }},
		{5, func(n int) []stanza.Stanza { return []stanza.Stanza{{f("A", "\n"+strings.Repeat("x", n))}} }},
		{7, func(n int) []stanza.Stanza { return []stanza.Stanza{{f("A", "x\n"+strings.Repeat("x", n))}} }},
		{9, func(n int) []stanza.Stanza { return []stanza.Stanza{{f("A", "x"), f("B", strings.Repeat("x", n))}} }},
		{7, func(n int) []stanza.Stanza { return []stanza.Stanza{{f("A", strings.Repeat("x", n)), f("B", "")}} }},
		{8, func(n int) []stanza.Stanza { return []stanza.Stanza{{f("A", strings.Repeat("x", n))}, {f("B", "")}} }},
		{8, func(n int) []stanza.Stanza { return []stanza.Stanza{{f("A", "")}, {f("B", strings.Repeat("x", n))}} }},
	} {
		for n := 59980; n < 60010; n++ {
			l := c.make(n)
			if len(textOf(l)) != c.bytes+n || checkPrint(t, l) != (c.bytes+n <= 60000) {
				t.Error(c.bytes, n)
			}
		}
	}
	// Each line of a value has a blank and a line feed more than it says.
	for _, n := range []int{19997, 19998, 19999, 20000, 30000, 59999} {
		for extra := range 4 {
			l := []stanza.Stanza{{f("A", strings.Repeat("\ny", n)+strings.Repeat("z", extra))}}
			if checkPrint(t, l) != (3+3*n+extra <= 60000) {
				t.Error(n, extra)
			}
		}
	}
	// 200 stanzas, 299 bytes each and 199 line feeds between.
	l := []stanza.Stanza{}
	for range 200 {
		l = append(l, stanza.Stanza{f("A", strings.Repeat("x", 295))})
	}
	if !checkPrint(t, l) || len(stanza.Print(l)) != 59999 {
		t.Error(len(stanza.Print(l)))
	}
	l[77] = append(l[77], f("B", ""))
	if checkPrint(t, l) {
		t.Error("60002")
	}
}

// N1: Print, letter by letter.
func TestPrint(t *testing.T) {
	for want, l := range map[string][]stanza.Stanza{
		"A:\n":                       {{f("A", "")}},
		"A: x\n":                     {{f("A", "x")}},
		"A: x y \n":                  {{f("A", "x y ")}},
		"A: x\n y\n":                 {{f("A", "x\ny")}},
		"A:\n y\n":                   {{f("A", "\ny")}},
		"A:\n  y\n  \n":              {{f("A", "\n y\n ")}},
		"A: x\n y\n z\nB: w\n":       {{f("A", "x\ny\nz"), f("B", "w")}},
		"B: 1\nA: 2\n":               {{f("B", "1"), f("A", "2")}},
		"A: x\n\nA:\n":               {{f("A", "x")}, {f("A", "")}},
		"A: x\n y\n\nB:\n\nC:\n z\n": {{f("A", "x\ny")}, {f("B", "")}, {f("C", "\nz")}},
		"a-1: :\n A: y\n":            {{f("a-1", ":\nA: y")}},
	} {
		if s := stanza.Print(l); s != want {
			t.Errorf("%q %q", want, s)
		}
		checkPrint(t, l)
	}
}

// N2: Parse, at what may be taken for something else.
func TestParse(t *testing.T) {
	for s, want := range map[string][]stanza.Stanza{
		"":                            nil,
		"\n":                          nil,
		"\n\n\n":                      nil,
		"A:":                          {{f("A", "")}},
		"A:\n":                        {{f("A", "")}},
		"A:x":                         {{f("A", "x")}},
		"A: x":                        {{f("A", "x")}},
		"A:    x":                     {{f("A", "x")}},
		"A:   ":                       {{f("A", "")}},
		"A: x  ":                      {{f("A", "x  ")}},
		"A: x\n":                      {{f("A", "x")}},
		"A: x\n\n":                    {{f("A", "x")}},
		"\n\nA: x":                    {{f("A", "x")}},
		"A: x\n y\n\nB:":              {{f("A", "x\ny")}, {f("B", "")}},
		"A: x\n\n\n\nA: y\n\n":        {{f("A", "x")}, {f("A", "y")}},
		"A: x\nB: y\n":                {{f("A", "x"), f("B", "y")}},
		"A:\n y":                      {{f("A", "\ny")}},
		"A: \n y":                     {{f("A", "\ny")}},
		"A: x\n  y \n   \nB: z":       {{f("A", "x\n y \n  "), f("B", "z")}},
		"A: x\n B: y":                 {{f("A", "x\nB: y")}},
		"A: x\n :":                    {{f("A", "x\n:")}},
		"A::":                         {{f("A", ":")}},
		"A: : :":                      {{f("A", ": :")}},
		"A:B: x":                      {{f("A", "B: x")}},
		"a: x\nA: y":                  {{f("a", "x"), f("A", "y")}},
		"A: \x7f\xff\n \x80":          {{f("A", "\x7f\xff\n\x80")}},
		"A:\u00a0x":                   {{f("A", "\u00a0x")}},
		strings.Repeat("a", 40) + ":": {{f(strings.Repeat("a", 40), "")}},
	} {
		if l, line, e := stanza.Parse(s); !alike(l, want) || line != 0 || e != api.OK {
			t.Errorf("%q %v %d %v", s, l, line, e)
		}
		checkParse(t, s)
	}
}

// N2: what is wrong with a line, and which line has it.
func TestParseWrong(t *testing.T) {
	type wrong struct {
		line int
		err  api.Errno
	}
	for s, want := range map[string]wrong{
		" ":                                  {1, api.ErrForm},
		" x":                                 {1, api.ErrForm},
		"\n x":                               {2, api.ErrForm},
		"A: x\n\n y":                         {3, api.ErrForm}, // the stanza is ended
		"A: x\n \n y":                        {2, api.ErrForm}, // nothing behind the blank
		"A: x\n ":                            {2, api.ErrForm},
		"A":                                  {1, api.ErrForm},
		"A x":                                {1, api.ErrForm},
		"A: x\nB":                            {2, api.ErrForm},
		":":                                  {1, api.ErrForm},
		": x":                                {1, api.ErrForm},
		"A : x":                              {1, api.ErrForm},
		"1: x":                               {1, api.ErrForm},
		"-: x":                               {1, api.ErrForm},
		"A_: x":                              {1, api.ErrForm},
		"A\xc3\xa9: x":                       {1, api.ErrForm},
		strings.Repeat("a", 41) + ":":        {1, api.ErrForm},
		"A: \t":                              {1, api.ErrForm},
		"\tA: x":                             {1, api.ErrForm},
		"A: x\n\ty":                          {2, api.ErrForm},
		"A: x\n y\x00":                       {2, api.ErrForm},
		"A: x\r\nB: y\r\n":                   {1, api.ErrForm},
		"\r\n":                               {1, api.ErrForm},
		"A: x\n\x1f":                         {2, api.ErrForm},
		"A: x\nA: x":                         {2, api.ErrThere},
		"A: x\nB: y\n\n\nA: x\n y\nB:\nA: y": {8, api.ErrThere},
		"A: x\n y\nA:":                       {3, api.ErrThere},
		"A: 1\nA: 2\nA\n x\n":                {2, api.ErrThere}, // the first line with an error
		"A\nA: 1\nA: 2":                      {1, api.ErrForm},
		"A: 1\nA":                            {2, api.ErrForm}, // ErrForm comes ahead of ErrThere
		"A: 1\nA: \x01":                      {2, api.ErrForm},
		"A: 1\nA:\n B\nB\nA: 2":              {2, api.ErrThere},
	} {
		if l, line, e := stanza.Parse(s); len(l) != 0 || line != want.line || e != want.err {
			t.Errorf("%q %v %d %v", s, l, line, e)
		}
		checkParse(t, s)
		// Behind lines without an error the same line has it; a line feed more changes nothing.
		ahead := "X: 1\n 2\nY:\n\n\nZ: 3\n\n"
		if _, line, e := stanza.Parse(ahead + s + "\n"); line != want.line+7 || e != want.err {
			t.Errorf("%q %d %v", ahead+s, line, e)
		}
		// A right line behind it changes nothing either.
		if _, line, e := stanza.Parse(s + "\nX: y"); line != want.line || e != want.err {
			t.Errorf("%q %d %v", s, line, e)
		}
	}
}

// N2: each of the 256 bytes, at each place of a line.
func TestParseBytes(t *testing.T) {
	for c := range 256 {
		b := string([]byte{byte(c)})
		for _, s := range []string{b, b + "A: x", "A" + b + ": x", "A:" + b, "A:" + b + "x", "A: x" + b, "A: x" + b + "y", "A: x\n" + b, "A: x\n " + b, "A: x\n " + b + "y", "A: x\n y" + b, "A: x\n" + b + "y", "A: x\n" + b + "\nB: y", "A: x\n\n" + b + "\nB: y"} {
			checkParse(t, s)
		}
		if _, _, e := stanza.Parse("A: x" + b + "y\n z" + b + "w"); (e == api.OK) != (c >= 32) {
			t.Errorf("%q %v", b, e)
		}
	}
}

// N2, N4: all rows of few bytes, and all of few lines.
func TestParseAll(t *testing.T) {
	told := map[api.Errno]int{}
	for _, s := range rows([]string{"A", "B-", ":", " ", "\n", "\t", "1"}, 6) {
		told[checkParse(t, s)]++
	}
	for _, s := range rows([]string{"A", ":", " ", "\n"}, 8) {
		told[checkParse(t, s)]++
	}
	for _, s := range rows([]string{"A: x\n", "B:\n", " y\n", "\n", " \n", "C:  \xff", "A", "\x01\n"}, 5) {
		told[checkParse(t, s)]++
	}
	for _, e := range []api.Errno{api.OK, api.ErrForm, api.ErrThere} {
		if told[e] < 1000 {
			t.Error(e, told[e])
		}
	}
}

// N2: 40 fields are read, one more is ErrMany, on its own line.
func TestParseFields(t *testing.T) {
	for n := 1; n < 60; n++ {
		for _, between := range []string{"", " y\n", " y\n  z\n"} {
			s, lines := "", 0
			for i := range n {
				s += "F" + strconv.Itoa(i) + ": x\n" + between
				lines += 1 + strings.Count(between, "\n")
			}
			_, line, e := stanza.Parse(s)
			if want := 40*lines/n + 1; n > 40 && (line != want || e != api.ErrMany) || n <= 40 && e != api.OK {
				t.Error(n, line, e)
			}
			checkParse(t, s)
		}
	}
	full := strings.TrimSuffix(textOf([]stanza.Stanza{fields(40)}), "\n")
	for s, want := range map[string]api.Errno{
		"":              api.OK,
		"\n y":          api.OK, // a line more of the last field is no field
		"\n\nG: x":      api.OK, // a stanza of its own
		"\nG: x":        api.ErrMany,
		"\nG:":          api.ErrMany,
		"\nF0: x":       api.ErrThere, // ErrThere comes ahead of ErrMany
		"\nF39: x":      api.ErrThere,
		"\nF0":          api.ErrForm, // so does ErrForm
		"\nG":           api.ErrForm,
		"\n1: x":        api.ErrForm,
		"\nG: \t":       api.ErrForm,
		"\n ":           api.ErrForm,
		"\nG: x\nF0: x": api.ErrMany, // the first line with an error
	} {
		line := 0
		if want != api.OK {
			line = 41
		}
		if _, n, e := stanza.Parse(full + s); n != line || e != want {
			t.Errorf("%q %d %v", s, n, e)
		}
		if _, n, e := stanza.Parse(full + "\n\n" + full + s); want != api.OK && n != 82 || e != want {
			t.Errorf("%q %d %v", s, n, e)
		}
		checkParse(t, full+s)
	}
}

// N2: 200 stanzas are read, one more is ErrMany, on its first line.
func TestParseStanzas(t *testing.T) {
	for _, n := range []int{1, 2, 40, 41, 199, 200, 201, 202, 400} {
		for _, one := range []string{"A: x\n\n", "\nA: x\n\n", "A: x\n y\nB:\n\n\n"} {
			s := strings.Repeat(one, n)
			_, line, e := stanza.Parse(s)
			if n <= 200 && e != api.OK || n > 200 && (line != 200*strings.Count(one, "\n")+1+strings.Index(one, "A") || e != api.ErrMany) {
				t.Error(n, line, e)
			}
			checkParse(t, s)
		}
	}
	full := strings.Repeat("A: x\n\n", 200)
	for s, want := range map[string]api.Errno{
		"":                 api.OK,
		"\n\n":             api.OK, // what is empty is no stanza
		"B:":               api.ErrMany,
		"A: x\nA: x":       api.ErrMany,
		"A":                api.ErrForm,
		"1: x":             api.ErrForm,
		" x":               api.ErrForm,
		"B: \t":            api.ErrForm,
		"\x00":             api.ErrForm,
		"B: x\n x\nB: x\n": api.ErrMany,
	} {
		line := 0
		if want != api.OK {
			line = 401
		}
		if _, n, e := stanza.Parse(full + s); n != line || e != want {
			t.Errorf("%q %d %v", s, n, e)
		}
		checkParse(t, full+s)
	}
	// Fields of a stanza that is open do not make it one more.
	if l, _, e := stanza.Parse(strings.TrimSuffix(full, "\n") + "B: y\nC: z\n"); len(l) != 200 || len(l[199]) != 3 || e != api.OK {
		t.Error(len(l), e)
	}
}

// N2: 60000 bytes are read; one more is ErrLong, of no line, whatever else is wrong.
func TestParseLong(t *testing.T) {
	for _, ahead := range []string{"", "A:", "A: x\n\nB: ", "A: x\n ", " ", "A", "\x00", "A: x\nA: y\n", strings.Repeat("A:\n\n", 201)} {
		for _, piece := range []string{"x", " ", "\n", "\x00", "\n x", "\xff", "A:\n"} {
			for n := 59998; n < 60004; n++ {
				s := (ahead + strings.Repeat(piece, n))[:n]
				l, line, e := stanza.Parse(s)
				if (e == api.ErrLong) != (n > 60000) || n > 60000 && (len(l) != 0 || line != 0) {
					t.Errorf("%q %q %d %d %v", ahead, piece, n, line, e)
				}
				checkParse(t, s)
			}
		}
	}
}

// N3: Get is the value of the first field of that very name.
func TestGet(t *testing.T) {
	st := stanza.Stanza{f("A", "1"), f("B", "x\ny"), f("A", "3"), f("", "e"), f("C", ""), f(" ", "\x00")}
	for name, want := range map[string]string{"A": "1", "B": "x\ny", "": "e", "C": "", " ": "\x00"} {
		if v, ok := stanza.Get(st, name); v != want || !ok {
			t.Errorf("%q %q %v", name, v, ok)
		}
	}
	for _, name := range []string{"a", "AA", "A ", "1", "\x00", "D"} {
		if v, ok := stanza.Get(st, name); v != "" || ok {
			t.Errorf("%q %q %v", name, v, ok)
		}
	}
	for _, st := range []stanza.Stanza{nil, {}, st[:0]} {
		if v, ok := stanza.Get(st, "A"); v != "" || ok {
			t.Errorf("%q %v", v, ok)
		}
	}
	for i := range 60 {
		if v, ok := stanza.Get(fields(60), "F"+strconv.Itoa(i)); v != "x" || !ok {
			t.Error(i, v, ok)
		}
	}
}

// N3: Put changes the first field of that name, or has one more; it asks of none whether it is right.
func TestPut(t *testing.T) {
	st := stanza.Stanza{f("A", "1"), f("B", "2"), f("A", "3"), f("", "e")}
	for name, want := range map[string]stanza.Stanza{
		"A": {f("A", "9"), f("B", "2"), f("A", "3"), f("", "e")},
		"B": {f("A", "1"), f("B", "9"), f("A", "3"), f("", "e")},
		"":  {f("A", "1"), f("B", "2"), f("A", "3"), f("", "9")},
		"a": {f("A", "1"), f("B", "2"), f("A", "3"), f("", "e"), f("a", "9")},
		"1": {f("A", "1"), f("B", "2"), f("A", "3"), f("", "e"), f("1", "9")},
	} {
		if x := stanza.Put(st, name, "9"); !slices.Equal(x, want) {
			t.Errorf("%q %v", name, x)
		}
	}
	for _, v := range []string{"", " x", "\n", "\x00", strings.Repeat("x", 1<<17)} {
		if x := stanza.Put(st, "B", v); x[1].Value != v || len(x) != 4 {
			t.Errorf("%.20q", v)
		}
		if x := stanza.Put(st, "C", v); x[4] != f("C", v) || len(x) != 5 {
			t.Errorf("%.20q", v)
		}
	}
	for i, st := range []stanza.Stanza{nil, {}, st[:0]} {
		if x := stanza.Put(st, "C", "9"); !slices.Equal(x, stanza.Stanza{f("C", "9")}) {
			t.Error(i, x)
		}
	}
	if x := stanza.Put(fields(40), "G", "9"); len(x) != 41 || x[40] != f("G", "9") {
		t.Error(len(x))
	}
	// Get of Put is what was put.
	for _, name := range []string{"A", "B", "", "C"} {
		if v, ok := stanza.Get(stanza.Put(st, name, "9"), name); v != "9" || !ok {
			t.Errorf("%q %q", name, v)
		}
	}
}

// N3: Only, over all stanzas of three fields and all lists of three names.
func TestOnly(t *testing.T) {
	names := []string{"A", "a", "", "B"}
	for i := range 256 {
		var st stanza.Stanza
		for n := i; n > 0; n /= 4 {
			st = append(st, f(names[n%4], "x"))
		}
		for j := range 256 {
			var l []string
			for n := j; n > 0; n /= 4 {
				l = append(l, names[n%4])
			}
			others := 0
			for _, x := range st {
				if !slices.Contains(l, x.Name) {
					others++
				}
			}
			if stanza.Only(st, l) != (others == 0) {
				t.Fatal(st, l)
			}
		}
	}
	if !stanza.Only(nil, nil) || !stanza.Only(stanza.Stanza{}, []string{"A"}) || stanza.Only(stanza.Stanza{f("A", "")}, nil) {
		t.Error("of none")
	}
	if stanza.Only(stanza.Stanza{f("A", "B")}, []string{"B"}) {
		t.Error("values are no names")
	}
}

// N4: Parse of Print is the stanzas, whatever values and how many of each.
func TestPrintAll(t *testing.T) {
	values := []string{"", "x", "x ", ":", "x\ny", "\ny", "\n ", "x\n y\n  ", "\xff\n\x7f", "A: x\nB: y", strings.Repeat("x\n", 40) + "x"}
	n := 0
	for stanzas := range 6 {
		for count := 1; count <= 40; count += 3 {
			for from := range values {
				var l []stanza.Stanza
				for i := range stanzas {
					st := fields((count+i*7)%40 + 1)
					for j := range st {
						st[j].Value = values[(from+i*5+j)%len(values)]
					}
					l = append(l, st)
				}
				if !checkPrint(t, l) {
					t.Fatal(stanzas, count, from)
				}
				n++
			}
		}
	}
	if n < 900 {
		t.Error(n)
	}
}

// N4: what was parsed is not right where its text would be too long: a blank is printed that need not be there.
func TestParsedLong(t *testing.T) {
	for n := 59990; n <= 60000; n++ {
		for _, ahead := range []string{"A:", "A: ", "A:\n ", "A:x\nB:y\n\nC:\n "} {
			s := ahead + strings.Repeat("x", n-len(ahead))
			l, _, e := stanza.Parse(s)
			if e != api.OK {
				t.Fatal(n, e)
			}
			// The last line has no line feed, and behind each `:` that has something a blank may be missing.
			more := 1 + strings.Count(s, ":x") + strings.Count(s, ":y")
			if right := checkPrint(t, l); right != (n+more <= 60000) {
				t.Errorf("%q %d %v", ahead, n, right)
			}
		}
	}
}

// P1: texts and lists that are long.
func TestLong(t *testing.T) {
	for _, piece := range []string{"A", ":", " ", "\n", "A:", "A:\n", " x\n", "\n ", "A: x\n\n", "\xff", "\x00"} {
		for _, ahead := range []string{"", "A:\n", "A: "} {
			long := ahead + strings.Repeat(piece, 1<<17)
			checkParse(t, long)
			checkParse(t, long[:60000])
			checkPrint(t, []stanza.Stanza{{f("A", long)}})
			if stanza.Name(long) {
				t.Errorf("%q", piece)
			}
		}
	}
	huge := strings.Repeat("x", 1<<24)
	st := fields(40)
	for i := range st {
		st[i].Value = huge
	}
	for i, l := range [][]stanza.Stanza{{st}, slices.Repeat([]stanza.Stanza{st}, 200), {{f(huge, "")}}, slices.Repeat([]stanza.Stanza{fields(1)}, 1<<20), {slices.Repeat(fields(1), 1<<20)}} {
		if stanza.Right(l) || stanza.Print(l) != "" {
			t.Error(i)
		}
	}
	var names []string
	many := fields(1 << 18)
	for _, x := range many {
		names = append(names, x.Name)
	}
	slices.Reverse(names)
	if !stanza.Only(many, names) || stanza.Only(many, names[1:]) {
		t.Error("Only")
	}
	if _, ok := stanza.Get(many, "G"); ok || len(stanza.Put(many, "G", "")) != 1<<18+1 {
		t.Error("Get, Put")
	}
}

// P3: nothing that is handed in is written into, and what lies behind a list's length is not read.
func TestHandedIn(t *testing.T) {
	make2 := func() ([]stanza.Stanza, []string) {
		l := []stanza.Stanza{stanza.Stanza{f("A", "x\ny"), f("B", ""), f("A", "1"), f("1", "")}[:2], stanza.Stanza{f("C", ""), f("", "")}[:1], {}, nil}
		return l, []string{"B", "A", "C", "1"}
	}
	l, names := make2()
	if !stanza.Right(l[:2]) || stanza.Print(l[:2]) != "A: x\n y\nB:\n\nC:\n" {
		t.Errorf("%q", stanza.Print(l[:2]))
	}
	for _, name := range []string{"A", "B", "D", ""} {
		x := stanza.Put(l[0], name, "9")
		_ = append(x, f("E", ""), f("E", ""))
		for i := range x {
			x[i] = f("changed", "")
		}
	}
	if _, ok := stanza.Get(l[0], "1"); ok {
		t.Error("Get")
	}
	if !stanza.Only(l[0], names[:2]) || stanza.Only(l[1], names[:2]) {
		t.Error("Only")
	}
	same, sameNames := make2()
	if !reflect.DeepEqual(l, same) || !slices.Equal(names, sameNames) {
		t.Error(l, names)
	}
	for i, st := range l {
		if !slices.Equal(st[:cap(st)], same[i][:cap(same[i])]) {
			t.Error(i, st[:cap(st)])
		}
	}
}

// P3: what is answered is new: no change of one list shows in another one.
func TestAnswered(t *testing.T) {
	const s = "A: 1\nB: 2\n\nA: 3\n\nC: 4\nD: 5\nE: 6\n"
	want := []stanza.Stanza{{f("A", "1"), f("B", "2")}, {f("A", "3")}, {f("C", "4"), f("D", "5"), f("E", "6")}}
	l, _, _ := stanza.Parse(s)
	for i := range l {
		for j := range l[i] {
			l[i][j] = f("changed", "")
		}
		_ = append(l[i], f("behind", ""), f("behind", ""), f("behind", ""))
		for j := i + 1; j < len(l); j++ {
			if !slices.Equal(l[j], want[j]) {
				t.Error(i, j, l[j])
			}
		}
	}
	if again, _, e := stanza.Parse(s); !alike(again, want) || e != api.OK {
		t.Error(again, e)
	}
	a, b := stanza.Put(want[0], "A", "9"), stanza.Put(want[0], "A", "9")
	a[0], a[1] = f("changed", ""), f("changed", "")
	if !slices.Equal(want[0], stanza.Stanza{f("A", "1"), f("B", "2")}) || !slices.Equal(b, stanza.Stanza{f("A", "9"), f("B", "2")}) {
		t.Error(want[0], b)
	}
}

// P4: the same call answers the same, whatever came between.
func TestTwice(t *testing.T) {
	texts := []string{"", "A: x", "A: x\n y\n\nB:", "A: x\nA: y", " x", "A: x\n\n\n y", "A\x00", strings.Repeat("A:\n\n", 201), strings.Repeat("x", 60001)}
	type answer struct {
		l     []stanza.Stanza
		line  int
		err   api.Errno
		text  string
		right bool
	}
	var first []answer
	for round := range 3 {
		for i, s := range texts {
			l, line, err := stanza.Parse(s)
			a := answer{l, line, err, stanza.Print(l), stanza.Right(l)}
			if round == 0 {
				first = append(first, a)
			}
			if !reflect.DeepEqual(first[i], a) {
				t.Errorf("%.20q %v", s, a)
			}
		}
	}
}
