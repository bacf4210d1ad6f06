package pins_test

import (
	"fmt"
	"math"
	"regexp"
	"slices"
	"strconv"
	"strings"
	"testing"

	"keelson/api"
	"keelson/pins"
	"keelson/relation"
	"keelson/stanza"
)

func pin(name, prefix string, priority int) api.Pin {
	return api.Pin{Name: name, Prefix: prefix, Priority: priority}
}

// text is a stanza of three fields, as they are handed in.
func text(name, versions, priority string) string {
	return "Package: " + name + "\nPin: " + versions + "\nPin-Priority: " + priority + "\n"
}

// many has n right pins, no two of them the same.
func many(n int) []api.Pin {
	l := []api.Pin{}
	for i := range n {
		name := "n" + strconv.Itoa(i)
		if i%5 == 4 {
			name = "*"
		}
		l = append(l, pin(name, strconv.Itoa(i)+".", i*(1-i%2*2)))
	}
	return l
}

// The chapter's words, and its promises, said once more.

var (
	prefixForm   = regexp.MustCompile(`\A[!-)+-~]{0,60}\z`)
	versionsForm = regexp.MustCompile(`\Aversion ([!-)+-~]{0,60})\*\z`)
	priorityForm = regexp.MustCompile(`\A(0|-?1000|-?[1-9][0-9]{0,2})\z`)
)

func nameOf(s string) bool { return s == "*" || relation.Name(s) }

func rightOf(p api.Pin) bool {
	return nameOf(p.Name) && prefixForm.MatchString(p.Prefix) && priorityForm.MatchString(strconv.Itoa(p.Priority))
}

func printOf(l []api.Pin) string {
	var texts []string
	for _, p := range l {
		if !rightOf(p) || len(l) >= 65 {
			return ""
		}
		texts = append(texts, text(p.Name, "version "+p.Prefix+"*", strconv.Itoa(p.Priority)))
	}
	return strings.Join(texts, "\n")
}

func parseOf(s string) ([]api.Pin, int, api.Errno) {
	stanzas, line, err := stanza.Parse(s)
	switch {
	case err != api.OK:
		return nil, line, err
	case len(stanzas) >= 65:
		return nil, 0, api.ErrMany
	}
	var l []api.Pin
	for i, st := range stanzas {
		fields := map[string]string{}
		for _, f := range st {
			fields[f.Name] = f.Value
		}
		for _, name := range []string{"Package", "Pin", "Pin-Priority"} {
			if _, ok := fields[name]; !ok {
				return nil, i + 1, api.ErrNone
			}
		}
		prefix := versionsForm.FindStringSubmatch(fields["Pin"])
		if !nameOf(fields["Package"]) || prefix == nil || !priorityForm.MatchString(fields["Pin-Priority"]) {
			return nil, i + 1, api.ErrForm
		}
		priority, _ := strconv.Atoi(fields["Pin-Priority"])
		l = append(l, pin(fields["Package"], prefix[1], priority))
	}
	return l, 0, api.OK
}

func matchesOf(p api.Pin, name, v string) bool {
	if p.Name != "*" && p.Name != name {
		return false
	}
	return len(v) >= len(p.Prefix) && v[:len(p.Prefix)] == p.Prefix
}

// priorityOf goes from the last pin on: what is ahead counts more.
func priorityOf(l []api.Pin, name, v string) int {
	own, every := 500, 500
	ofName := false
	for _, p := range slices.Backward(l) {
		if matchesOf(p, name, v) && p.Name == name {
			own, ofName = p.Priority, true
		}
		if matchesOf(p, name, v) && p.Name == "*" {
			every = p.Priority
		}
	}
	if ofName {
		return own
	}
	return every
}

func lossOf(l []api.Pin, name string, all []string, v string) int {
	var priorities []int
	for _, w := range append(slices.Clone(all), v) {
		priorities = append(priorities, priorityOf(l, name, w))
	}
	return slices.Max(priorities) - priorityOf(l, name, v)
}

// checkPins holds Right and Print of pins against the chapter's words, and Parse of Print with it (Y3).
func checkPins(t *testing.T, l []api.Pin) string {
	t.Helper()
	for _, p := range l {
		if pins.Right(p) != rightOf(p) {
			t.Fatalf("%.200q is right: %v", fmt.Sprint(p), !rightOf(p))
		}
	}
	s := pins.Print(l)
	if want := printOf(l); s != want {
		t.Fatalf("%.200q: %.300q, not %.300q", fmt.Sprint(l), s, want)
	}
	if again, n, err := pins.Parse(s); s != "" && (!slices.Equal(again, l) || n != 0 || err != api.OK) {
		t.Fatalf("%.200q %v %d %v", fmt.Sprint(l), again, n, err)
	}
	return s
}

// checkParse holds Parse of a text against parseOf, and that what was read is right.
func checkParse(t *testing.T, s string) api.Errno {
	t.Helper()
	want, wantN, wantErr := parseOf(s)
	l, n, err := pins.Parse(s)
	if !slices.Equal(l, want) || n != wantN || err != wantErr {
		t.Fatalf("%.300q %v %d %v, not %v %d %v", s, l, n, err, want, wantN, wantErr)
	}
	if again := checkPins(t, l); again == "" && len(l) > 0 {
		t.Fatalf("%.300q %v is not right", s, l)
	}
	return err
}

// rows are all rows of at most n pieces.
func rows[T any](pieces []T, n int) [][]T {
	all, last := [][]T{nil}, [][]T{nil}
	for range n {
		var longer [][]T
		for _, row := range last {
			for _, p := range pieces {
				longer = append(longer, append(slices.Clone(row), p))
			}
		}
		all, last = append(all, longer...), longer
	}
	return all
}

// Y1: by hand, what is right and what is not.
func TestRight(t *testing.T) {
	for i, c := range []struct {
		p     api.Pin
		right bool
	}{
		{pin("ab", "", 0), true}, {pin("*", "", 0), true}, {pin("ab", "1.", -1), true}, {pin("*", "2", 900), true},
		{pin("0a", "!", 1000), true}, {pin("a+-.", "~", -1000), true}, {pin(strings.Repeat("a", 40), strings.Repeat("x", 60), 7), true},
		{pin("ab", "x", 0), true}, {pin("ab", "1:2-3(),|", 0), true}, {pin("ab", ")+", 0), true},
		{api.Pin{}, false}, {pin("", "1", 1), false}, {pin("a", "1", 1), false}, {pin("A", "1", 1), false}, {pin("Ab", "1", 1), false}, {pin("+a", "1", 1), false},
		{pin("**", "1", 1), false}, {pin("*a", "1", 1), false}, {pin("a*", "1", 1), false}, {pin("ab*", "1", 1), false}, {pin("* ", "1", 1), false}, {pin(" *", "1", 1), false},
		{pin(strings.Repeat("a", 41), "1", 1), false}, {pin("ab", strings.Repeat("x", 61), 1), false}, {pin("*", strings.Repeat("x", 61), 1), false},
		{pin("ab", "*", 1), false}, {pin("ab", "1*", 1), false}, {pin("ab", "*1", 1), false}, {pin("ab", "1*2", 1), false}, {pin("ab", " ", 1), false}, {pin("ab", " 1", 1), false}, {pin("ab", "1 ", 1), false},
		{pin("ab", "\x7f", 1), false}, {pin("ab", "\x1f", 1), false}, {pin("ab", "\n", 1), false}, {pin("ab", "1\n", 1), false}, {pin("ab", "\x00", 1), false}, {pin("ab", "\x80", 1), false}, {pin("ab", "é", 1), false}, {pin("ab", "\xff", 1), false},
		{pin("ab", "1", 1001), false}, {pin("ab", "1", -1001), false}, {pin("*", "", 1001), false}, {pin("*", "", -1001), false}, {pin("ab", "", math.MaxInt), false}, {pin("ab", "", math.MinInt), false},
	} {
		if pins.Right(c.p) != c.right || (checkPins(t, []api.Pin{c.p}) != "") != c.right {
			t.Errorf("%d %#v", i, c.p)
		}
	}
}

// Y1: each byte of a prefix is above 32 and below 127, and no `*`, wherever it stands; 60 of them may be there.
func TestRightPrefix(t *testing.T) {
	for c := range 256 {
		right := c > 32 && c < 127 && c != '*'
		for n := range 4 {
			for place := range n + 1 {
				b := []byte(strings.Repeat("1", n))
				p := pin("ab", string(slices.Insert(b, place, byte(c))), 1)
				if pins.Right(p) != right || (checkPins(t, []api.Pin{p}) != "") != right {
					t.Errorf("%q", p.Prefix)
				}
			}
		}
	}
	for n := range 130 {
		for _, name := range []string{"ab", "*"} {
			p := pin(name, strings.Repeat("1", n), 1)
			if pins.Right(p) != (n <= 60) || (checkPins(t, []api.Pin{p}) != "") != (n <= 60) {
				t.Error(name, n)
			}
		}
	}
}

// Y1: all bytes as a name, alone and in one: `*` is the only name that is none of 3.
func TestRightName(t *testing.T) {
	for c := range 256 {
		for _, ahead := range []string{"", "a", "*", "ab"} {
			for _, behind := range []string{"", "a", "*"} {
				name := ahead + string([]byte{byte(c)}) + behind
				p := pin(name, "1", 1)
				if pins.Right(p) != (name == "*" || relation.Name(name)) {
					t.Errorf("%q", name)
				}
				checkPins(t, []api.Pin{p})
			}
		}
	}
}

// Y1: the priority is -1000 to 1000.
func TestRightPriority(t *testing.T) {
	for n := -2100; n <= 2100; n++ {
		p := pin("*", "1", n)
		right := n >= -1000 && n <= 1000
		if pins.Right(p) != right || (checkPins(t, []api.Pin{p}) != "") != right {
			t.Error(n)
		}
	}
	for _, n := range []int{math.MinInt, math.MinInt + 1000, -1 << 32, 1<<32 + 1, math.MaxInt - 1000, math.MaxInt} {
		if p := pin("ab", "", n); pins.Right(p) || checkPins(t, []api.Pin{p}) != "" {
			t.Error(n)
		}
	}
}

// Y1: the text, letter by letter.
func TestPrint(t *testing.T) {
	for i, c := range []struct {
		l    []api.Pin
		want string
	}{
		{nil, ""},
		{[]api.Pin{}, ""},
		{[]api.Pin{pin("ab", "1.", -1)}, "Package: ab\nPin: version 1.*\nPin-Priority: -1\n"},
		{[]api.Pin{pin("*", "", 0)}, "Package: *\nPin: version *\nPin-Priority: 0\n"},
		{[]api.Pin{pin("cd", "2", 1000), pin("*", "", -1000), pin("ab", "1:2~", 7)}, "Package: cd\nPin: version 2*\nPin-Priority: 1000\n\nPackage: *\nPin: version *\nPin-Priority: -1000\n\nPackage: ab\nPin: version 1:2~*\nPin-Priority: 7\n"},
		{[]api.Pin{pin("ab", "1", 1), pin("ab", "1", 1)}, "Package: ab\nPin: version 1*\nPin-Priority: 1\n\nPackage: ab\nPin: version 1*\nPin-Priority: 1\n"},
		{[]api.Pin{pin("ab", "1", 1), pin("ab", "1", 1001)}, ""},
		{[]api.Pin{{}}, ""},
	} {
		if s := pins.Print(c.l); s != c.want || checkPins(t, c.l) != c.want {
			t.Errorf("%d %q", i, s)
		}
	}
}

// Y1: 64 pins are printed, no more, and none, if one is not right, wherever it stands.
func TestPrintMany(t *testing.T) {
	for n := range 300 {
		if s := checkPins(t, many(n)); (s != "") != (n > 0 && n <= 64) {
			t.Error(n, s)
		}
	}
	greatest := slices.Repeat([]api.Pin{pin(strings.Repeat("a", 40), strings.Repeat("x", 60), -1000)}, 64)
	if s := checkPins(t, greatest); len(s) < 64*140 {
		t.Error(len(s))
	}
	for n := range 65 {
		for place := range n {
			for i, spoil := range []func(*api.Pin){
				func(p *api.Pin) { p.Name = "A" },
				func(p *api.Pin) { p.Prefix += " " },
				func(p *api.Pin) { p.Priority += 2000 },
			} {
				l := many(n)
				spoil(&l[place])
				if s := pins.Print(l); s != "" {
					t.Errorf("%d %d %d %q", n, place, i, s)
				}
			}
		}
	}
}

const (
	ab1  = "Package: ab\nPin: version 1.*\nPin-Priority: -1\n"
	any2 = "Package: *\nPin: version 2*\nPin-Priority: 900\n"
)

// Y1: Parse, at what may be taken for something else.
func TestParse(t *testing.T) {
	both := []api.Pin{pin("ab", "1.", -1), pin("*", "2", 900)}
	for s, want := range map[string][]api.Pin{
		"":                                    nil,
		"\n\n\n":                              nil,
		ab1:                                   both[:1],
		strings.TrimSuffix(ab1, "\n"):         both[:1],
		ab1 + "\n" + any2:                     both,
		"\n\n" + ab1 + "\n\n\n" + any2 + "\n": both,
		any2 + "\n" + ab1:                     {both[1], both[0]},
		ab1 + "\n" + ab1:                      {both[0], both[0]},
		"Pin-Priority:-1\nPin:version 1.*\nPackage:ab":                                                          both[:1],
		"Pin:     version 1.*\nPin-Priority:   -1\nPackage:    ab":                                              both[:1],
		"X: y\n z\n" + ab1 + "pin: x\nPin-: y\nPins: z\nPACKAGE: A\nPriority: x\nPin-priority:\nExplanation: *": both[:1],
		text("*", "version *", "0"):                                                                             {pin("*", "", 0)},
		text("ab", "version version*", "1"):                                                                     {pin("ab", "version", 1)},
		text("ab", "version 1:2-3~x+*", "1000"):                                                                 {pin("ab", "1:2-3~x+", 1000)},
		text("ab", "version #,;*", "-1000"):                                                                     {pin("ab", "#,;", -1000)},
		text(strings.Repeat("a", 40), "version "+strings.Repeat("x", 60)+"*", "1"):                              {pin(strings.Repeat("a", 40), strings.Repeat("x", 60), 1)},
	} {
		l, n, err := pins.Parse(s)
		if !slices.Equal(l, want) || n != 0 || err != api.OK {
			t.Errorf("%q %v %d %v", s, l, n, err)
		}
		checkParse(t, s)
	}
}

// Y1: each of the three fields is in its one form, or the pin is not read; nearly so is not so.
func TestParseForm(t *testing.T) {
	for place, c := range []struct{ right, wrong []string }{
		{[]string{"ab", "*", "0+", "a.-"}, []string{"", "a", "A", "**", "ab*", "*ab", "* ", "ab ", "a b", "ab cd", "+a", "ab\n cd", "\n ab", "*\n *", "\xff", "é", strings.Repeat("a", 41)}},
		{[]string{"version *", "version 1.*", "version !*", "version Version*", "version version:*", "version -*", "version " + strings.Repeat("x", 60) + "*"}, []string{
			"", "*", "version", "version*", "version ", "versio *", "versions *", "Version *", "VERSION *", "origin *", "release 1*", "1.*", " 1*", "version\n *", "\n version *", "version 1\n *", "version *\n *",
			"version 1", "version 1.", "version **", "version ***", "version 1**", "version *1*", "version *1", "version * ", "version  *", "version  1*", "version 1 *", "version 1 2*", "version 1* ", "version 1*2", "version 1*2*",
			"version version", "version version *", "version \x7f*", "version \x80*", "version é*", "version 1\xff*", "version=1*", "version:*", "version\xa0*", "version " + strings.Repeat("x", 61) + "*",
		}},
		{[]string{"0", "1", "-1", "9", "10", "100", "999", "1000", "-999", "-1000"}, []string{
			"", "-", "+", "+1", "-0", "+0", "00", "01", "-01", "001", "1001", "-1001", "9999", "10000", "01000", "-01000", "1 ", "- 1", "1 2", "1\n 2", "\n 1", "1.0", "1e2", "0x1", "0b1", "0o7", "1_0", "1_000", "x", "1x", "x1", "--1", "-+1", "٣", "1\x7f", "\xff",
			"9223372036854775807", "9223372036854775808", "-9223372036854775808", "-9223372036854775809", "18446744073709551616", "18446744073709551617", "4294967296", "65537", strings.Repeat("9", 400), strings.Repeat("0", 400) + "1",
		}},
	} {
		for i, l := range [][]string{c.right, c.wrong} {
			for _, value := range l {
				fields := [3]string{"ab", "version 1*", "1"}
				fields[place] = value
				s := text(fields[0], fields[1], fields[2])
				want := api.OK
				if i == 1 {
					want = api.ErrForm
				}
				if err := checkParse(t, s); err != want {
					t.Errorf("%.100q %v", s, err)
				}
				if l, n, err := pins.Parse(any2 + "\n" + s + "X: y\n\n" + ab1); err != want || err != api.OK && (len(l) != 0 || n != 2) || err == api.OK && len(l) != 3 {
					t.Errorf("%.100q %v %d %v", s, l, n, err)
				}
			}
		}
	}
}

// Y1: all numbers, written as they must be and otherwise.
func TestParsePriority(t *testing.T) {
	for n := -1100; n <= 1100; n++ {
		s := strconv.Itoa(n)
		want := api.OK
		if n < -1000 || n > 1000 {
			want = api.ErrForm
		}
		l, at, err := pins.Parse(text("ab", "version 1*", s))
		if err != want || err == api.OK && (!slices.Equal(l, []api.Pin{pin("ab", "1", n)}) || at != 0) || err != api.OK && (len(l) != 0 || at != 1) {
			t.Error(n, l, at, err)
		}
		for _, other := range []string{"0" + s, "+" + s, s + ".", s + "0000", "-0" + strings.TrimPrefix(s, "-"), "--" + s} {
			if err := checkParse(t, text("ab", "version 1*", other)); err != api.ErrForm {
				t.Errorf("%q %v", other, err)
			}
		}
	}
}

// Y1: each byte in the prefix of a text: those that no line may have are the line's error.
func TestParseBytes(t *testing.T) {
	for c := range 256 {
		for _, frame := range [][2]string{{"", ""}, {"1", ""}, {"", "1"}, {"1", "2"}} {
			prefix := frame[0] + string([]byte{byte(c)}) + frame[1]
			want, wantN := api.OK, 0
			switch {
			case c == '\n': // the line ends, and what is next is no field
				want, wantN = api.ErrForm, 3
			case c < 32:
				want, wantN = api.ErrForm, 2
			case c == 32 || c >= 127 || c == '*':
				want, wantN = api.ErrForm, 1
			}
			l, n, err := pins.Parse(text("ab", "version "+prefix+"*", "1"))
			if err != want || n != wantN || err == api.OK && l[0].Prefix != prefix {
				t.Errorf("%q %v %d %v", prefix, l, n, err)
			}
			checkParse(t, text("ab", "version "+prefix+"*", "1"))
		}
	}
}

// Y1: of one stanza that a field is not there comes ahead of what is wrong with another one.
func TestParseNone(t *testing.T) {
	values := [3][]string{{"", "Package: ab\n", "Package: A\n", "Package:\n"}, {"", "Pin: version *\n", "Pin: origin\n", "Pin:\n"}, {"", "Pin-Priority: 1\n", "Pin-Priority: x\n", "Pin-Priority:\n"}}
	for i := range 64 {
		a, b, c := i%4, i/4%4, i/16
		want := api.OK
		switch {
		case a == 0 || b == 0 || c == 0:
			want = api.ErrNone
		case a > 1 || b > 1 || c > 1:
			want = api.ErrForm
		}
		for _, order := range [][3]int{{0, 1, 2}, {0, 2, 1}, {1, 0, 2}, {1, 2, 0}, {2, 0, 1}, {2, 1, 0}} {
			fields := [3]string{values[0][a], values[1][b], values[2][c]}
			s := "X: y\n" + fields[order[0]] + fields[order[1]] + fields[order[2]]
			if err := checkParse(t, s); err != want {
				t.Errorf("%q %v", s, err)
			}
			if l, n, err := pins.Parse(ab1 + "\n" + s); err != want || err != api.OK && (len(l) != 0 || n != 2) {
				t.Errorf("%q %v %d %v", s, l, n, err)
			}
		}
	}
}

// Y1: all rows of few stanzas: the first one with an error is told, with its number.
func TestParseFirst(t *testing.T) {
	pieces := []string{ab1, any2, "X: y\n", "Package: ab\nPin: x\n", text("A", "version *", "1"), text("ab", "version *", "+1"), text("ab", "version 1", "1") + "X: y\n"}
	wants := []api.Errno{api.OK, api.OK, api.ErrNone, api.ErrNone, api.ErrForm, api.ErrForm, api.ErrForm}
	places := []int{0, 1, 2, 3, 4, 5, 6}
	for _, row := range rows(places, 4) {
		var texts []string
		want, wantN := api.OK, 0
		for i, p := range row {
			texts = append(texts, pieces[p])
			if want == api.OK && wants[p] != api.OK {
				want, wantN = wants[p], i+1
			}
		}
		s := strings.Join(texts, "\n")
		if l, n, err := pins.Parse(s); n != wantN || err != want || err != api.OK && len(l) != 0 || err == api.OK && len(l) != len(row) {
			t.Fatalf("%q %v %d %v", s, l, n, err)
		}
		checkParse(t, s)
		// What is wrong with a line comes ahead of all, wherever it is.
		if l, n, err := pins.Parse(s + "\nY"); len(l) != 0 || n != strings.Count(s, "\n")+2 || err != api.ErrForm {
			t.Fatalf("%q %v %d %v", s, l, n, err)
		}
	}
}

// Y1: what stanza.Parse tells is told, with its line.
func TestParseLines(t *testing.T) {
	for s, want := range map[string]struct {
		line int
		err  api.Errno
	}{
		"X":                        {1, api.ErrForm},
		":":                        {1, api.ErrForm},
		" ":                        {1, api.ErrForm},
		ab1 + " \n":                {4, api.ErrForm},
		ab1 + "\x00":               {4, api.ErrForm},
		ab1 + "Pin: version *":     {4, api.ErrThere},
		ab1 + "Package: ab":        {4, api.ErrThere},
		ab1 + "Pin-Priority: -1":   {4, api.ErrThere},
		ab1 + "\n" + ab1 + ab1:     {8, api.ErrThere},
		"Package: A\n" + ab1:       {2, api.ErrThere},
		"Y: z\n\n" + ab1 + "1: x":  {6, api.ErrForm},
		strings.Repeat("x", 60001): {0, api.ErrLong},
		ab1 + strings.Repeat("\n", 60001-len(ab1)):             {0, api.ErrLong},
		ab1 + strings.Repeat("\n", 60000-len(ab1)):             {0, api.OK},
		ab1 + "X: " + strings.Repeat("\xff", 60000-len(ab1)-3): {0, api.OK},
		ab1 + fields(37): {0, api.OK},
		ab1 + fields(38): {41, api.ErrMany},
	} {
		l, n, err := pins.Parse(s)
		if n != want.line || err != want.err || err != api.OK && len(l) != 0 || err == api.OK && !slices.Equal(l, []api.Pin{pin("ab", "1.", -1)}) {
			t.Errorf("%.60q %v %d %v", s, l, n, err)
		}
		checkParse(t, s)
	}
}

// fields are n others.
func fields(n int) string {
	s := ""
	for i := range n {
		s += "X" + strconv.Itoa(i) + ": y\n"
	}
	return s
}

// Y1: 64 stanzas are read, no more, whatever is in them; too many come behind what is wrong with a line.
func TestParseMany(t *testing.T) {
	for _, piece := range []string{"X: y\n", ab1, text("A", "version *", "1")} {
		for n := range 210 {
			s := strings.Repeat(piece+"\n", n)
			want, wantN := api.OK, 0
			switch {
			case n > 200:
				want, wantN = api.ErrMany, 200*(strings.Count(piece, "\n")+1)+1
			case n > 64:
				want, wantN = api.ErrMany, 0
			case n == 0 || piece == ab1:
			case piece == "X: y\n":
				want, wantN = api.ErrNone, 1
			default:
				want, wantN = api.ErrForm, 1
			}
			l, m, err := pins.Parse(s)
			if m != wantN || err != want || err != api.OK && len(l) != 0 || err == api.OK && len(l) != n {
				t.Errorf("%q %d: %d %v", piece, n, m, err)
			}
			checkParse(t, s)
			if l, m, err := pins.Parse(s + "Y"); n <= 200 && (len(l) != 0 || m != strings.Count(s, "\n")+1 || err != api.ErrForm) {
				t.Errorf("%q %d: %d %v", piece, n, m, err)
			}
		}
	}
	for n := range 66 {
		if l, m, err := pins.Parse(printOf(many(min(n, 64)))); !slices.Equal(l, many(min(n, 64))) || m != 0 || err != api.OK {
			t.Error(n, m, err)
		}
	}
}

// Y2: Matches, by hand.
func TestMatches(t *testing.T) {
	for i, c := range []struct {
		p       api.Pin
		name, v string
		want    bool
	}{
		{pin("ab", "1.", 0), "ab", "1.5", true},
		{pin("ab", "1.", 0), "ab", "1.", true},
		{pin("ab", "1.", 0), "ab", "1", false},
		{pin("ab", "1.", 0), "ab", "11.", false},
		{pin("ab", "1.", 0), "ab", "2:1.5", false},
		{pin("ab", "1.", 0), "cd", "1.5", false},
		{pin("ab", "1.", 0), "abc", "1.5", false},
		{pin("ab", "1.", 0), "a", "1.5", false},
		{pin("ab", "1.", 0), "AB", "1.5", false},
		{pin("ab", "1.", 0), "*", "1.5", false},
		{pin("*", "1.", 0), "ab", "1.5", true},
		{pin("*", "1.", 0), "*", "1.5", true},
		{pin("*", "1.", 0), "", "1.5", true},
		{pin("*", "1.", 0), "A b\n", "1.5", true},
		{pin("*", "1.", 0), "ab", "2", false},
		{pin("ab", "", 0), "ab", "", true},
		{pin("ab", "", 0), "ab", "x y\xff", true},
		{pin("*", "", 0), "", "", true},
		{pin("ab", "1", 0), "ab", "", false},
		{pin("ab", "01", 0), "ab", "1", false}, // the bytes, not the version
		{pin("ab", "1.0", 0), "ab", "1", false},
		{pin("ab", "x", 0), "ab", "X", false},
		// What is not right is held against it by the same words.
		{api.Pin{}, "", "", true},
		{api.Pin{}, "", "1", true},
		{api.Pin{}, "ab", "1", false},
		{pin("A", "1 *", 5000), "A", "1 *2", true},
		{pin("A", "1 *", 5000), "A", "1 2", false},
		{pin("**", "", 0), "ab", "1", false},
		{pin("ab*", "", 0), "abc", "1", false},
		{pin("\xff", "\xff\x00", 0), "\xff", "\xff\x00\xff", true},
	} {
		if pins.Matches(c.p, c.name, c.v) != c.want {
			t.Errorf("%d %#v %q %q", i, c.p, c.name, c.v)
		}
	}
}

// Y2: the chapter's example, and by hand what the rows below are held against.
func TestPriority(t *testing.T) {
	l, n, err := pins.Parse(ab1)
	if !slices.Equal(l, []api.Pin{pin("ab", "1.", -1)}) || n != 0 || err != api.OK {
		t.Fatal(l, n, err)
	}
	l = append(l, pin("*", "2", 900))
	mixed := []api.Pin{pin("*", "", 1), pin("ab", "1.2", 2), pin("cd", "1", 3), pin("ab", "1", 4), pin("*", "1.2", 5), pin("ab", "1.2.3", 6), pin("ab", "", 7), pin("ab", "", 8)}
	for i, c := range []struct {
		l       []api.Pin
		name, v string
		want    int
	}{
		{l, "ab", "1.5", -1}, {l, "ab", "2", 900}, {l, "cd", "2", 900}, {l, "cd", "1", 500},
		{l, "ab", "1", 500}, {l, "ab", "", 500}, {l, "", "", 500}, {l, "*", "2", 900}, {l, "*", "1", 500},
		{nil, "ab", "1", 500}, {[]api.Pin{}, "", "", 500},
		{mixed, "ab", "1.2.3", 2}, // the first one, not the longest prefix
		{mixed, "ab", "1.3", 4},
		{mixed, "ab", "1", 4},
		{mixed, "ab", "2", 7}, // one of the name itself, though one of all is ahead
		{mixed, "cd", "1.2", 3},
		{mixed, "cd", "2", 1}, // that of the name does not match
		{mixed, "ef", "1.2", 1},
		{mixed, "*", "1.2", 1},
		{mixed[1:], "ef", "1.2", 5},
		{mixed[1:], "ef", "2", 500},
		{mixed[4:], "ab", "1.2", 7},
		{[]api.Pin{pin("ab", "", 500), pin("*", "", 3)}, "ab", "1", 500}, // a pin of 500 is one too
		{[]api.Pin{pin("*", "", 0)}, "ab", "1", 0},
		{[]api.Pin{pin("ab", "", 0), pin("*", "", 3)}, "ab", "1", 0},
		{[]api.Pin{pin("ab", "", -1000), pin("ab", "", 1000), pin("*", "", 3)}, "ab", "1", -1000},
		{[]api.Pin{pin("ab", "", math.MaxInt)}, "ab", "1", math.MaxInt}, // what is not right is taken as it is
		{[]api.Pin{pin("*", "", math.MinInt)}, "ab", "1", math.MinInt},
		{[]api.Pin{pin("A", " ", 7)}, "A", " 1", 7},
		{[]api.Pin{{}}, "", "x", 0},
	} {
		if n := pins.Priority(c.l, c.name, c.v); n != c.want || priorityOf(c.l, c.name, c.v) != c.want {
			t.Errorf("%d %d, not %d", i, n, c.want)
		}
	}
}

// Y2: Loss, by hand: v counts among all, if it is one of them or not.
func TestLoss(t *testing.T) {
	l := []api.Pin{pin("*", "2", 900), pin("ab", "1.", -1), pin("ab", "1", 7), pin("*", "", 100)}
	for i, c := range []struct {
		l    []api.Pin
		name string
		all  string
		v    string
		want int
	}{
		{l, "ab", "1.5 1 2", "1.5", 901}, {l, "ab", "1.5 1 2", "1", 893}, {l, "ab", "1.5 1 2", "2", 0},
		{l, "ab", "1.5 1", "1.5", 8}, {l, "ab", "1.5", "1.5", 0}, {l, "ab", "", "1.5", 0}, {l, "ab", "1", "1.5", 8},
		{l, "ab", "1.5", "1", 0}, // all are wished for less
		{l, "ab", "1.5 1.6 1.7", "2", 0}, {l, "ab", "3", "1.5", 101}, {l, "ab", "2 2 2", "1.5", 901},
		{l, "cd", "1.5 1 2", "1.5", 800}, {l, "cd", "1.5 1", "1.5", 0}, {l, "*", "1.5 1 2", "1", 800},
		{nil, "ab", "1 2 3", "1", 0}, {nil, "", "", "", 0},
		{[]api.Pin{pin("ab", "1", 400)}, "ab", "1 2", "1", 100}, {[]api.Pin{pin("ab", "1", 400)}, "ab", "1 2", "2", 0}, {[]api.Pin{pin("ab", "1", 600)}, "ab", "1 2", "2", 100},
		{[]api.Pin{pin("ab", "1", -1000), pin("ab", "2", 1000)}, "ab", "1 2", "1", 2000},
		{[]api.Pin{pin("ab", "1", -1000), pin("ab", "2", -999)}, "ab", "1 2", "1", 1}, // nought is not among them
		{[]api.Pin{pin("cd", "1", -1000), pin("cd", "2", 1000)}, "ab", "1 2", "1", 0},
	} {
		all := strings.Fields(c.all)
		if n := pins.Loss(c.l, c.name, all, c.v); n != c.want || lossOf(c.l, c.name, all, c.v) != c.want {
			t.Errorf("%d %d, not %d", i, n, c.want)
		}
	}
}

// Y2, Y3: of all rows of few pins, all versions of few: what is told, and that no loss is below 0, and one of them 0.
func TestPriorityAll(t *testing.T) {
	pieces := []api.Pin{pin("ab", "1", 1), pin("ab", "1.", 1000), pin("*", "", 300), pin("*", "1.", -1000), pin("cd", "", 700), pin("ab", "2", 500)}
	versions := []string{"1", "1.5", "2", "", "3"}
	lists := rows(versions[:3], 3)
	counted := map[int]int{}
	for _, l := range rows(pieces, 4) {
		for _, name := range []string{"ab", "cd", "*", ""} {
			for _, v := range versions {
				for _, p := range l {
					if pins.Matches(p, name, v) != matchesOf(p, name, v) {
						t.Fatal(p, name, v)
					}
				}
				n := pins.Priority(l, name, v)
				if n != priorityOf(l, name, v) {
					t.Fatal(l, name, v, n)
				}
				counted[n]++
			}
			for _, all := range lists {
				losses := []int{}
				for _, v := range versions {
					n := pins.Loss(l, name, all, v)
					if n != lossOf(l, name, all, v) || n < 0 {
						t.Fatal(l, name, all, v, n)
					}
					if slices.Contains(all, v) {
						losses = append(losses, n)
					}
				}
				if len(all) > 0 && slices.Min(losses) != 0 {
					t.Fatal(l, name, all, losses)
				}
			}
		}
	}
	for _, n := range []int{1, 1000, 300, -1000, 700, 500} {
		if counted[n] < 500 {
			t.Error(n, counted[n])
		}
	}
}

// Y3: all pins of few parts, and rows of them.
func TestPrintParse(t *testing.T) {
	var pieces []api.Pin
	for _, name := range []string{"ab", "*", "A", "a+b"} {
		for _, prefix := range []string{"", "1.", "version", "*", "1:~", "-"} {
			for _, n := range []int{-1000, -1, 0, 1000, 1001} {
				pieces = append(pieces, pin(name, prefix, n))
			}
		}
	}
	printed := 0
	for _, l := range rows(pieces, 2) {
		if checkPins(t, l) != "" {
			printed++
		}
	}
	if printed < 3600 {
		t.Error(printed)
	}
}

// P1: whatever is handed in, an answer comes.
func TestAnything(t *testing.T) {
	texts := []string{"", "*", "ab", "\x00", "\xff\xfe", "é", " ", "\n", "1", "version", "version *", strings.Repeat("*", 100000), strings.Repeat("a", 100000)}
	numbers := []int{math.MinInt, -1001, -1, 0, 500, 1001, math.MaxInt}
	var l []api.Pin
	for _, a := range texts {
		for _, b := range texts {
			for _, n := range numbers {
				l = append(l, pin(a, b, n))
			}
		}
	}
	for _, p := range l {
		checkPins(t, []api.Pin{p})
	}
	checkPins(t, l)
	for _, a := range texts {
		for _, b := range texts {
			if n := pins.Priority(l, a, b); n != priorityOf(l, a, b) {
				t.Errorf("%.20q %.20q %d", a, b, n)
			}
			if n := pins.Loss(l, a, texts, b); n != lossOf(l, a, texts, b) {
				t.Errorf("%.20q %.20q %d", a, b, n)
			}
		}
		checkParse(t, a)
		checkParse(t, text(a, a, a))
	}
	long := slices.Repeat([]api.Pin{pin("ab", "1", 1)}, 100000)
	if pins.Print(long) != "" || pins.Priority(long, "ab", "2") != 500 || pins.Priority(append(long, pin("*", "2", 3)), "ab", "2") != 3 {
		t.Error("long")
	}
	if n := pins.Loss(long[:3], "ab", slices.Repeat([]string{"2"}, 100000), "1"); n != 499 {
		t.Error(n)
	}
}

// P3: nothing that is handed in is written into, and what is behind its length is not read.
func TestHandedIn(t *testing.T) {
	for n := range 6 {
		whole := append(many(n), pin("*", "", 77), pin("x", "", 5000))
		all := []string{"1.", "2.", "0.1", "4.x", "9"}
		l, versions := whole[:n], all[:n%4]
		if s := pins.Print(l); s != printOf(many(n)) {
			t.Errorf("%d %q", n, s)
		}
		for _, name := range []string{"n0", "n3", "x", "*"} {
			for _, v := range []string{"0.1", "3.", "7"} {
				if pins.Priority(l, name, v) != priorityOf(many(n), name, v) || pins.Loss(l, name, versions, v) != lossOf(many(n), name, versions, v) {
					t.Error(n, name, v)
				}
			}
		}
		if !slices.Equal(whole, append(many(n), pin("*", "", 77), pin("x", "", 5000))) || !slices.Equal(all, []string{"1.", "2.", "0.1", "4.x", "9"}) {
			t.Error(n, whole, all)
		}
	}
}

// P3: what is answered is new, and nothing that was handed in is kept.
func TestAnswered(t *testing.T) {
	s := ab1 + "\n" + any2
	a, _, _ := pins.Parse(s)
	b, _, _ := pins.Parse(s)
	a = append(a, pin("more", "", 0), pin("more", "", 0))
	for i := range a {
		a[i] = pin("changed", "", 7)
	}
	if c, _, _ := pins.Parse(s); !slices.Equal(b, c) || pins.Print(b) != s {
		t.Error(b, c)
	}
	l := many(3)
	before := pins.Print(l)
	l[0].Priority, l[1].Name = 1000, "zz"
	if pins.Print(l) == before || pins.Print(l) != printOf(l) || pins.Priority(l, "n0", "0.") != 1000 || pins.Priority(l, "n1", "1.") != 500 {
		t.Error(l)
	}
}

// P4: the same call answers the same, whatever came between.
func TestTwice(t *testing.T) {
	texts := []string{"", ab1, any2, ab1 + "\n" + any2, "X: y", "X", text("ab", "version *", "x"), strings.Repeat(ab1+"\n", 65), printOf(many(64)), strings.Repeat("x", 60001)}
	var first []string
	for round := range 3 {
		for i, s := range texts {
			l, n, err := pins.Parse(s)
			a := fmt.Sprint(l, n, err, pins.Print(l), pins.Priority(l, "ab", "1.5"), pins.Loss(l, "ab", []string{"1.5", "2"}, "1.5"))
			if round == 0 {
				first = append(first, a)
			}
			if first[i] != a {
				t.Errorf("%.20q %s, not %s", s, a, first[i])
			}
		}
	}
}
