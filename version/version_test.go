package version_test

import (
	"cmp"
	"math"
	"math/big"
	"slices"
	"strconv"
	"strings"
	"testing"

	"keelson/api"
	"keelson/version"
)

const (
	digits  = "0123456789"
	letters = "ABCDEFGHIJKLMNOPQRSTUVWXYZabcdefghijklmnopqrstuvwxyz"
)

// words are all texts of at most n bytes, of those of alphabet.
func words(alphabet string, n int) []string {
	l := []string{""}
	for from := 0; n > 0; n-- {
		to := len(l)
		for _, s := range l[from:to] {
			for _, c := range []byte(alphabet) {
				l = append(l, s+string([]byte{c}))
			}
		}
		from = to
	}
	return l
}

func only(s, bytes string) bool {
	for _, c := range []byte(s) {
		if strings.IndexByte(bytes, c) < 0 {
			return false
		}
	}
	return true
}

// textOf puts a version together, be it right or not.
func textOf(v api.Version) string {
	s := v.Upstream
	if v.Epoch != 0 {
		s = strconv.Itoa(v.Epoch) + ":" + s
	}
	if v.Revision != "" {
		s += "-" + v.Revision
	}
	return s
}

// rightOf is the chapter's word, said once more.
func rightOf(v api.Version) bool {
	switch {
	case v.Epoch < 0, v.Epoch > 999999999, len(textOf(v)) > 60:
		return false
	case v.Upstream == "", !only(v.Upstream[:1], digits):
		return false
	case !only(v.Upstream, digits+letters+".+~-:"), !only(v.Revision, digits+letters+".+~"):
		return false
	case strings.Contains(v.Upstream, "-") && v.Revision == "":
		return false
	}
	return v.Epoch != 0 || !strings.Contains(v.Upstream, ":")
}

// versionsOf are all right versions of which s is the text, by all ways to take it apart.
func versionsOf(s string) []api.Version {
	var l []api.Version
	look := func(epoch int, rest string) {
		for i := range len(rest) + 1 {
			v := api.Version{Epoch: epoch, Upstream: rest[:i]}
			if i < len(rest) {
				v.Revision = rest[i+1:]
			}
			if rightOf(v) && textOf(v) == s {
				l = append(l, v)
			}
		}
	}
	look(0, s)
	for i := range s {
		if n, err := strconv.Atoi(s[:i]); err == nil && n != 0 {
			look(n, s[i+1:])
		}
	}
	return l
}

// parseOf is what Parse has to answer of a text that is short enough, and whether there is any.
func parseOf(t *testing.T, s string) (api.Version, bool) {
	l := versionsOf(s)
	if rest, cut := strings.CutPrefix(s, "0:"); cut {
		for _, v := range versionsOf(rest) {
			if v.Epoch == 0 {
				l = append(l, v)
			}
		}
	}
	if len(l) > 1 {
		t.Fatalf("%q is the text of %v", s, l)
	}
	if len(l) == 0 {
		return api.Version{}, false
	}
	return l[0], true
}

// R1: Right, what each word of it asks for by itself.
func TestRight(t *testing.T) {
	for i, c := range []struct {
		v    api.Version
		want bool
	}{
		{api.Version{Upstream: "1"}, true},
		{api.Version{Upstream: "1", Revision: "a"}, true},
		{api.Version{Epoch: 1, Upstream: "0"}, true},
		{api.Version{Epoch: 999999999, Upstream: "1"}, true},
		{api.Version{Epoch: 1000000000, Upstream: "1"}, false},
		{api.Version{Epoch: math.MaxInt, Upstream: "1"}, false},
		{api.Version{Epoch: -1, Upstream: "1"}, false},
		{api.Version{Epoch: math.MinInt, Upstream: "1"}, false},
		{api.Version{}, false},
		{api.Version{Epoch: 1, Revision: "1"}, false},
		{api.Version{Upstream: "a1"}, false},
		{api.Version{Upstream: ".1"}, false},
		{api.Version{Upstream: "~1"}, false},
		{api.Version{Upstream: "-1", Revision: "1"}, false},
		{api.Version{Epoch: 1, Upstream: ":1"}, false},
		{api.Version{Upstream: "1-2"}, false},
		{api.Version{Upstream: "1-"}, false},
		{api.Version{Upstream: "1-2", Revision: "3"}, true},
		{api.Version{Upstream: "1-", Revision: "3"}, true},
		{api.Version{Upstream: "1--2-", Revision: "~"}, true},
		{api.Version{Upstream: "1:2"}, false},
		{api.Version{Upstream: "1:", Revision: "1"}, false},
		{api.Version{Epoch: 1, Upstream: "1:2"}, true},
		{api.Version{Epoch: 1, Upstream: "1::"}, true},
		{api.Version{Epoch: 1, Upstream: "1:-2"}, false},
		{api.Version{Epoch: 1, Upstream: "1:-2", Revision: "3"}, true},
		{api.Version{Upstream: "1", Revision: "2-3"}, false},
		{api.Version{Epoch: 1, Upstream: "1", Revision: "2:3"}, false},
		{api.Version{Upstream: "1\xc3\xa9"}, false},
		{api.Version{Upstream: "1", Revision: "\xc3\xa9"}, false},
	} {
		if got := version.Right(c.v); got != c.want || rightOf(c.v) != c.want {
			t.Error(i, c.v, got)
		}
	}
}

// R1: which bytes may stand where: each of the 256.
func TestRightBytes(t *testing.T) {
	for c := range 256 {
		b := string([]byte{byte(c)})
		for _, v := range []api.Version{
			{Upstream: b},
			{Upstream: "1" + b},
			{Upstream: "1" + b + "1", Revision: "1"},
			{Epoch: 1, Upstream: b + "1"},
			{Epoch: 1, Upstream: "1" + b},
			{Epoch: 1, Upstream: "1" + b + "1", Revision: "1"},
			{Upstream: "1", Revision: b},
			{Upstream: "1", Revision: "1" + b},
			{Epoch: 1, Upstream: "1", Revision: b + "1"},
		} {
			want := rightOf(v)
			if got := version.Right(v); got != want {
				t.Errorf("%#v %v", v, got)
			}
			if got := version.Print(v); (got != "") != want || want && got != textOf(v) {
				t.Errorf("%#v %q", v, got)
			}
			if want {
				continue
			}
			if p, e := version.Parse(textOf(v)); e == api.OK && p == v {
				t.Errorf("%#v", v)
			}
		}
	}
}

// R1: the text of a right version has at most 60 bytes, whichever part of it is long.
func TestLength(t *testing.T) {
	long := func(n int) string { return strings.Repeat("1", n) }
	for i, c := range []struct {
		v    api.Version
		want bool
	}{
		{api.Version{Upstream: long(60)}, true},
		{api.Version{Upstream: long(61)}, false},
		{api.Version{Upstream: long(58), Revision: "1"}, true},
		{api.Version{Upstream: long(59), Revision: "1"}, false},
		{api.Version{Upstream: "1", Revision: long(58)}, true},
		{api.Version{Upstream: "1", Revision: long(59)}, false},
		{api.Version{Epoch: 9, Upstream: long(58)}, true},
		{api.Version{Epoch: 9, Upstream: long(59)}, false},
		{api.Version{Epoch: 10, Upstream: long(57)}, true},
		{api.Version{Epoch: 10, Upstream: long(58)}, false},
		{api.Version{Epoch: 999999999, Upstream: long(40), Revision: long(9)}, true},
		{api.Version{Epoch: 999999999, Upstream: long(41), Revision: long(9)}, false},
		{api.Version{Upstream: long(1 << 20), Revision: long(1 << 20)}, false},
	} {
		s := textOf(c.v)
		want, wantPrint, wantErr := api.Version{}, "", api.ErrLong
		if c.want {
			want, wantPrint, wantErr = c.v, s, api.OK
		}
		if got := version.Right(c.v); got != c.want {
			t.Error(i, got)
		}
		if got := version.Print(c.v); got != wantPrint {
			t.Error(i, got)
		}
		if v, e := version.Parse(s); v != want || e != wantErr {
			t.Error(i, v, e)
		}
	}
	// too long is told of any bytes, and with `0:` ahead too
	for _, s := range []string{strings.Repeat("?", 61), "0:" + long(59), "a" + long(60), strings.Repeat("-", 1<<20)} {
		if v, e := version.Parse(s); v != (api.Version{}) || e != api.ErrLong {
			t.Error(len(s), v, e)
		}
	}
	if v, e := version.Parse("0:" + long(58)); v != (api.Version{Upstream: long(58)}) || e != api.OK {
		t.Error(v, e)
	}
	if v, e := version.Parse(strings.Repeat("?", 60)); v != (api.Version{}) || e != api.ErrVersion {
		t.Error(v, e)
	}
}

// R1: Parse, at what may be taken for something else.
func TestParse(t *testing.T) {
	for s, want := range map[string]api.Version{
		"1:2.0-3":                              {Epoch: 1, Upstream: "2.0", Revision: "3"},
		"2-1-3":                                {Upstream: "2-1", Revision: "3"},
		"1--a":                                 {Upstream: "1-", Revision: "a"},
		"1-1:2":                                {},
		"1:2-1:2":                              {},
		"1:2:3-4-5":                            {Epoch: 1, Upstream: "2:3-4", Revision: "5"},
		"0:0":                                  {Upstream: "0"},
		"0:1-2":                                {Upstream: "1", Revision: "2"},
		"0:0:1":                                {},
		"0:1:2":                                {},
		"1:0:2":                                {Epoch: 1, Upstream: "0:2"},
		"00:1":                                 {},
		"01:1":                                 {},
		"+0:1":                                 {},
		"-0:1":                                 {},
		"+1:1":                                 {},
		"1_0:1":                                {},
		"0x1:1":                                {},
		" 1:1":                                 {},
		"1: 1":                                 {},
		"0:":                                   {},
		"0:-1":                                 {},
		"0:~1":                                 {},
		":":                                    {},
		":1":                                   {},
		"-":                                    {},
		"-1":                                   {},
		"1-":                                   {},
		"1--":                                  {},
		"1-2-":                                 {},
		"2-":                                   {},
		"a":                                    {},
		"":                                     {},
		"999999999:1":                          {Epoch: 999999999, Upstream: "1"},
		"1000000000:1":                         {},
		"0999999999:1":                         {},
		"\xd9\xa1":                             {},
		"1\xff":                                {},
		"1\x00":                                {},
		"1\n":                                  {},
		"1-\xc3\xa4":                           {},
		"1.2+3~4-5.6+7":                        {Upstream: "1.2+3~4", Revision: "5.6+7"},
		"18446744073709551617:1":               {},
		"99999999999999999999999999999999:1-1": {},
	} {
		wantErr := api.OK
		if want == (api.Version{}) {
			wantErr = api.ErrVersion
		}
		if v, e := version.Parse(s); v != want || e != wantErr {
			t.Errorf("%q %v %v", s, v, e)
		}
	}
}

// R1, R4: all short texts: Parse takes just those that are texts of right versions, and Print gives them back.
func TestParseAll(t *testing.T) {
	taken := 0
	for _, s := range words("01a~-:", 6) {
		want, found := parseOf(t, s)
		wantErr := api.ErrVersion
		if found {
			wantErr = api.OK
			taken++
		}
		v, e := version.Parse(s)
		if v != want || e != wantErr {
			t.Fatalf("%q %v %v", s, v, e)
		}
		if e == api.OK && (!version.Right(v) || version.Print(v) != strings.TrimPrefix(s, "0:")) {
			t.Fatalf("%q %v %q", s, v, version.Print(v))
		}
	}
	if taken < 1000 {
		t.Error(taken)
	}
}

// R1, R4: of all versions of short parts: Right, Print, and Parse of Print.
func TestPrintAll(t *testing.T) {
	taken := 0
	parts := words("0a~-: ", 3)
	for _, epoch := range []int{math.MinInt, -1, 0, 1, 10, 999999999, 1000000000, math.MaxInt} {
		for _, upstream := range parts {
			for _, revision := range parts {
				v := api.Version{Epoch: epoch, Upstream: upstream, Revision: revision}
				want, wantPrint := rightOf(v), ""
				if want {
					wantPrint = textOf(v)
				}
				if version.Right(v) != want || version.Print(v) != wantPrint {
					t.Fatalf("%#v %v %q", v, want, version.Print(v))
				}
				if !want {
					continue
				}
				taken++
				if p, e := version.Parse(wantPrint); p != v || e != api.OK {
					t.Fatalf("%#v %v %v", v, p, e)
				}
			}
		}
	}
	if taken < 1000 {
		t.Error(taken)
	}
}

const end = -1

// scale is what may stand at a place of what is not digits, the lightest first.
func scale() []int {
	l := []int{'~', end}
	for _, c := range []byte(letters) {
		l = append(l, int(c))
	}
	for c := range 256 {
		if c != '~' && !only(string([]byte{byte(c)}), letters+digits) {
			l = append(l, c)
		}
	}
	return l
}

// orderOf is the order of texts by the scale and by numbers without bounds.
func orderOf(scale []int, a, b string) int {
	for a != "" || b != "" {
		for {
			x, y := place(scale, a), place(scale, b)
			if x != y {
				return cmp.Compare(x, y)
			}
			if scale[x] == end {
				break
			}
			a, b = a[1:], b[1:]
		}
		var x, y *big.Int
		x, a = number(a)
		y, b = number(b)
		if c := x.Cmp(y); c != 0 {
			return c
		}
	}
	return 0
}

func place(scale []int, s string) int {
	if s == "" || only(s[:1], digits) {
		return slices.Index(scale, end)
	}
	return slices.Index(scale, int(s[0]))
}

// number reads the digits ahead, and answers what is left.
func number(s string) (*big.Int, string) {
	n := new(big.Int)
	for s != "" && only(s[:1], digits) {
		n.Mul(n, big.NewInt(10))
		n.Add(n, big.NewInt(int64(s[0]-'0')))
		s = s[1:]
	}
	return n, s
}

// R2: what comes between two texts, at what the chapter names.
func TestCompareText(t *testing.T) {
	for _, c := range []struct {
		a, b string
		want int
	}{
		{"", "", 0},
		{"", "0", 0},
		{"", "000", 0},
		{"", "1", -1},
		{"", "~", 1},
		{"", "a", -1},
		{"0", "~", 1},
		{"0", "a", -1},
		{"1.0~rc1", "1.0", -1},
		{"1.0~", "1.0", -1},
		{"1.0~~", "1.0~", -1},
		{"1.0~~a", "1.0~", -1},
		{"1.10", "1.9", 1},
		{"1.0", "1.0a", -1},
		{"1a", "1+", -1},
		{"1Z", "1a", -1},
		{"1z", "1\x00", -1},
		{"1z", "1!", -1},
		{"1\x00", "1", 1},
		{"1\x7f", "1~", 1},
		{"1\xff", "1\x80", 1},
		{"1\xff", "1\x7f", 1},
		{"1+", "1-", -1},
		{"1-", "1.", -1},
		{"1.", "1:", -1},
		{"007", "7", 0},
		{"1.007a", "1.7a", 0},
		{"a0", "a", 0},
		{"a00b", "a0b", 0},
		{"a0b", "ab", -1}, // the end of `a` is less than `b`
		{"a0~", "a~", 1},  // the end is greater than `~`
		{"a0.", "a.", -1}, // any other byte is greater than the end
		{"ab1", "a9", 1},  // `ab` and `a` are held against one another ahead of the numbers
		{"ab", "aB", 1},   // by the byte
		{"abc~1", "abc", -1},
		{"1.2.3", "1.2", 1},
		{"9223372036854775807", "9223372036854775808", -1},
		{"18446744073709551616", "0", 1},
		{"18446744073709551617", "1", 1},
		{"100000000000000000000", "99999999999999999999", 1},
		{"000000000000000000000000000000001", "1", 0},
		{"1\xc3\xa4", "1\xc3\xb6", -1},
	} {
		if n := version.CompareText(c.a, c.b); n != c.want {
			t.Errorf("%q %q %d", c.a, c.b, n)
		}
		if n := version.CompareText(c.b, c.a); n != -c.want {
			t.Errorf("%q %q %d", c.b, c.a, n)
		}
	}
}

// R2: each of the 256 bytes and the end, against each.
func TestCompareTextBytes(t *testing.T) {
	l := []string{""}
	for c := range 256 {
		l = append(l, string([]byte{byte(c)}))
	}
	scale := scale()
	for _, around := range [][2]string{{"", ""}, {"x", ""}, {"", "1"}, {"5.", ".5"}} {
		for _, x := range l {
			for _, y := range l {
				a, b := around[0]+x+around[1], around[0]+y+around[1]
				if n, want := version.CompareText(a, b), orderOf(scale, a, b); n != want {
					t.Fatalf("%q %q %d", a, b, n)
				}
			}
		}
	}
}

// R2: all short texts, against each.
func TestCompareTextAll(t *testing.T) {
	scale := scale()
	l := words("~a.01", 4)
	for _, a := range l {
		for _, b := range l {
			if n, want := version.CompareText(a, b), orderOf(scale, a, b); n != want {
				t.Fatalf("%q %q %d", a, b, n)
			}
		}
	}
}

// R2, P1: texts of many bytes and of many parts.
func TestCompareTextLong(t *testing.T) {
	const n = 1 << 20
	for _, s := range []string{"1", "a", "~", "0", "1.", "a1", "0~", "\xff"} {
		long := strings.Repeat(s, n)
		if c := version.CompareText(long, long); c != 0 {
			t.Errorf("%q %d", s, c)
		}
		if c := version.CompareText(long+"~1", long); c != -1 {
			t.Errorf("%q %d", s, c)
		}
		if c := version.CompareText(long+"a", long); c != 1 {
			t.Errorf("%q %d", s, c)
		}
	}
	if c := version.CompareText(strings.Repeat("0", n)+"2", "2"); c != 0 {
		t.Error(c)
	}
}

// R2: the first part that differs says which version is less; right or not, they have an order.
func TestCompare(t *testing.T) {
	for i, c := range []struct {
		a, b api.Version
		want int
	}{
		{api.Version{}, api.Version{}, 0},
		{api.Version{Epoch: 1, Upstream: "1", Revision: "1"}, api.Version{Upstream: "2", Revision: "2"}, 1},
		{api.Version{Upstream: "2", Revision: "1"}, api.Version{Upstream: "1", Revision: "2"}, 1},
		{api.Version{Upstream: "1", Revision: "1"}, api.Version{Upstream: "1", Revision: "2"}, -1},
		{api.Version{Upstream: "1.0", Revision: "01"}, api.Version{Upstream: "1.", Revision: "1"}, 0},
		{api.Version{Upstream: "1"}, api.Version{Upstream: "1", Revision: "0"}, 0},
		{api.Version{Upstream: "1"}, api.Version{Upstream: "1", Revision: "0~"}, 1},
		{api.Version{Upstream: "1"}, api.Version{Upstream: "1", Revision: "a"}, -1},
		{api.Version{Upstream: "1-1", Revision: "1"}, api.Version{Upstream: "1", Revision: "9"}, 1},
		{api.Version{Epoch: math.MinInt}, api.Version{Epoch: math.MaxInt}, -1},
		{api.Version{Epoch: -1, Upstream: "?"}, api.Version{Upstream: "~"}, -1},
		{api.Version{Upstream: "?"}, api.Version{Upstream: "!"}, 1},
	} {
		if n := version.Compare(c.a, c.b); n != c.want {
			t.Error(i, n)
		}
		if n := version.Compare(c.b, c.a); n != -c.want {
			t.Error(i, n)
		}
	}
}

// R2: Order, also of what Parse does not take.
func TestOrder(t *testing.T) {
	long := strings.Repeat("9", 61)
	for _, c := range []struct {
		a, b string
		want int
	}{
		{"1:1", "2", 1},
		{"1:1", "1:1-0", 0},
		{"0:1", "1", 0},
		{"0:2", "1", 1},
		{"1-1", "1-2", -1},
		{"2-1", "1-2", 1},
		{"1-2-3", "1-2", 1},       // Upstream `1-2` against `1`
		{"1-1", "1.1", -1},        // `1` against `1.1`
		{"1-1", "1~-1", 1},        //
		{"1:1:2", "1:1:10", -1},   // a `:` in Upstream
		{"10:1", "9:1", 1},        // epochs are numbers
		{"999999999:1", "9", 1},   //
		{"1000000000:1", "0", -1}, // from here on one is not taken
		{"x", "0~", -1},
		{"", "0~~", -1},
		{long, "0~~", -1},
		{"1-", "0~~", -1},
		{"x", "y", 0},
		{"", "x", 0},
		{long, "x", 0},
		{long, long + "9", 0},
		{"0:1:1", "1-", 0},
	} {
		if n := version.Order(c.a, c.b); n != c.want {
			t.Errorf("%q %q %d", c.a, c.b, n)
		}
		if n := version.Order(c.b, c.a); n != -c.want {
			t.Errorf("%q %q %d", c.b, c.a, n)
		}
	}
}

// R3: Newest, the first of the greatest ones.
func TestNewest(t *testing.T) {
	for i, c := range []struct {
		l    []string
		want int
	}{
		{nil, -1},
		{[]string{}, -1},
		{[]string{""}, 0},
		{[]string{"1"}, 0},
		{[]string{"1", "2", "3"}, 2},
		{[]string{"3", "2", "1"}, 0},
		{[]string{"2", "10", "9"}, 1},
		{[]string{"1", "01", "1-0", "0:1"}, 0},
		{[]string{"0", "01", "1", "1-0", "0:1"}, 1},
		{[]string{"x", "y", ""}, 0},
		{[]string{"x", "y", "0~~"}, 2},
		{[]string{"x", "0", strings.Repeat("9", 61), "0-0"}, 1},
		{[]string{"1~", "1", "1~~"}, 1},
		{[]string{"9", "1:0", "8"}, 1},
	} {
		if n := version.Newest(c.l); n != c.want {
			t.Error(i, n)
		}
	}
}

// R4: the texts fall into classes, one above the other, and the place of a class says all of how a text stands.
func TestOrderOfClasses(t *testing.T) {
	l := words("~a.01", 4)
	slices.SortStableFunc(l, version.CompareText)
	class := make([]int, len(l))
	for i := 1; i < len(l); i++ {
		c := version.CompareText(l[i-1], l[i])
		if c > 0 {
			t.Fatalf("%q %q", l[i-1], l[i])
		}
		class[i] = class[i-1] - c
	}
	for i, a := range l {
		for j, b := range l {
			if n := version.CompareText(a, b); n != cmp.Compare(class[i], class[j]) {
				t.Fatalf("%q %q %d", a, b, n)
			}
		}
	}
}

// R4: the same of versions and of texts that are versions or not, by all threes of them.
func TestOrderOfVersions(t *testing.T) {
	l := []string{"", "x", "1-", "0:1:1"}
	for _, epoch := range []string{"", "0:", "1:"} {
		for _, upstream := range []string{"1", "01", "1~", "1a", "1-1"} {
			for _, revision := range []string{"", "-0", "-0~", "-a"} {
				l = append(l, epoch+upstream+revision)
			}
		}
	}
	for _, a := range l {
		for _, b := range l {
			n := version.Order(a, b)
			if n != -version.Order(b, a) {
				t.Fatalf("%q %q %d", a, b, n)
			}
			for _, c := range l {
				if n == 0 && version.Order(a, c) != version.Order(b, c) || n <= 0 && version.Order(b, c) <= 0 && version.Order(a, c) > 0 {
					t.Fatalf("%q %q %q", a, b, c)
				}
			}
		}
	}
}

// R4: what a `~`, a letter behind a text, and noughts ahead of a number do.
func TestBehindAndAhead(t *testing.T) {
	l := words("~a.01", 3)
	for _, s := range l {
		for _, x := range l {
			if n := version.CompareText(s+"~"+x, s); n != -1 {
				t.Fatalf("%q %q %d", s, x, n)
			}
			if n := version.CompareText(s+"z"+x, s); n != 1 {
				t.Fatalf("%q %q %d", s, x, n)
			}
			if !strings.HasSuffix(s, "0") && !strings.HasSuffix(s, "1") {
				if n := version.CompareText(s+"0007"+x, s+"7"+x); n != 0 {
					t.Fatalf("%q %q %d", s, x, n)
				}
			}
		}
	}
}

// P3, P4: a list is only read, not behind its length, and the same call answers the same.
func TestListIsOnlyRead(t *testing.T) {
	l := []string{"1", "x", "2", "3"}
	for range 2 {
		if n := version.Newest(l[:3]); n != 2 {
			t.Error(n)
		}
	}
	if !slices.Equal(l, []string{"1", "x", "2", "3"}) {
		t.Error(l)
	}
}
