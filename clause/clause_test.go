package clause_test

import (
	"fmt"
	"math"
	"math/rand"
	"reflect"
	"regexp"
	"slices"
	"strconv"
	"strings"
	"testing"

	"keelson/api"
	"keelson/clause"
)

// The chapter's words, said once more.

func abs(x int) int {
	if x < 0 {
		return -x
	}
	return x
}

func literalOf(x, n int) bool { return x >= 1 && x <= n || x <= -1 && x >= -n }

func rightOf(n int, l [][]int) bool {
	if n < 0 || n > 20000 || len(l) > 400000 {
		return false
	}
	for _, c := range l {
		if len(c) > 20000 {
			return false
		}
		for _, x := range c {
			if !literalOf(x, n) {
				return false
			}
		}
	}
	return true
}

// tidyOf puts each literal in its place, one by one.
func tidyOf(c []int) ([]int, bool) {
	var l []int
	both := false
	for _, x := range c {
		at := 0
		for at < len(l) && (abs(l[at]) < abs(x) || abs(l[at]) == abs(x) && l[at] > x) {
			at++
		}
		if at == len(l) || l[at] != x {
			l = slices.Insert(l, at, x)
		}
		both = both || x != 0 && slices.Contains(l, -x)
	}
	return l, both
}

func truthOf(x int, a []int) int {
	switch {
	case x > 0 && x <= len(a) && a[x-1] > 0, x < 0 && x >= -len(a) && a[-x-1] < 0:
		return 1
	case x > 0 && x <= len(a) && a[x-1] < 0, x < 0 && x >= -len(a) && a[-x-1] > 0:
		return -1
	}
	return 0
}

func valueOf(c []int, a []int) int {
	counted := map[int]int{}
	for _, x := range c {
		counted[truthOf(x, a)]++
	}
	switch {
	case counted[1] > 0:
		return 1
	case counted[-1] == len(c):
		return -1
	}
	return 0
}

func holdsOf(l [][]int, m []bool) bool {
	for _, c := range l {
		some := 0
		for _, x := range c {
			if x > 0 && x <= len(m) && m[x-1] || x < 0 && x >= -len(m) && !m[-x-1] {
				some++
			}
		}
		if some == 0 {
			return false
		}
	}
	return true
}

// unitsOf goes through all clauses again as long as something follows.
func unitsOf(n int, l [][]int, given []int) ([]int, bool) {
	if !rightOf(n, l) {
		return nil, false
	}
	a := make([]int, n)
	for _, x := range given {
		if !literalOf(x, n) || slices.Contains(given, -x) {
			return nil, false
		}
		a[abs(x)-1] = x / abs(x)
	}
	for again := true; again; {
		again = false
		for _, c := range l {
			different, _ := tidyOf(c)
			counted := map[int][]int{}
			for _, x := range different {
				counted[truthOf(x, a)] = append(counted[truthOf(x, a)], x)
			}
			if len(counted[-1]) == len(different) {
				return nil, false
			}
			if len(counted[1]) == 0 && len(counted[0]) == 1 {
				x := counted[0][0]
				a[abs(x)-1] = x / abs(x)
				again = true
			}
		}
	}
	return a, true
}

func resolveOf(a, b []int, v int) ([]int, bool) {
	if v < 1 || !slices.Contains(a, v) || !slices.Contains(b, -v) {
		return nil, false
	}
	var l []int
	for _, x := range a {
		if x != v {
			l = append(l, x)
		}
	}
	for _, x := range b {
		if x != -v {
			l = append(l, x)
		}
	}
	l, _ = tidyOf(l)
	return l, true
}

func printOf(n int, l [][]int) string {
	if !rightOf(n, l) {
		return ""
	}
	s := fmt.Sprintf("p cnf %d %d\n", n, len(l))
	for _, c := range l {
		for _, x := range c {
			s += fmt.Sprintf("%d ", x)
		}
		s += "0\n"
	}
	return s
}

var (
	whole = regexp.MustCompile(`^p cnf (0|[1-9][0-9]{0,9}) (0|[1-9][0-9]{0,9})\n((?:(?:-?[1-9][0-9]{0,9} )*0\n)*)$`)
	some  = regexp.MustCompile(`-?[1-9][0-9]*`)
)

func parseOf(s string) (int, [][]int, api.Errno) {
	if len(s) > 60000 {
		return 0, nil, api.ErrLong
	}
	parts := whole.FindStringSubmatch(s)
	if parts == nil {
		return 0, nil, api.ErrForm
	}
	n, _ := strconv.Atoi(parts[1])
	var l [][]int
	for _, line := range strings.SplitAfter(parts[3], "\n") {
		if line == "" {
			continue
		}
		c := []int{}
		for _, word := range some.FindAllString(line, -1) {
			x, _ := strconv.Atoi(word)
			c = append(c, x)
		}
		l = append(l, c)
	}
	if parts[2] != strconv.Itoa(len(l)) || !rightOf(n, l) {
		return 0, nil, api.ErrForm
	}
	return n, l, api.OK
}

// sameFormula takes clauses of nothing, nil or empty, as the same (P5).
func sameFormula(a, b [][]int) bool { return slices.EqualFunc(a, b, slices.Equal[[]int]) }

// rows are all rows of at most n pieces.
func rows[T any](pieces []T, n int) [][]T {
	all, last := [][]T{nil}, [][]T{nil}
	for range n {
		var longer [][]T
		for _, row := range last {
			for _, p := range pieces {
				longer = append(longer, append(slices.Clone(row), p))
			}
		}
		all, last = append(all, longer...), longer
	}
	return all
}

// truths are all truths of n variables.
func truths(n int) [][]bool {
	var l [][]bool
	for _, m := range rows([]bool{false, true}, n) {
		if len(m) == n {
			l = append(l, m)
		}
	}
	return l
}

// chance makes rows that are the same ones in each run.
type chance struct{ *rand.Rand }

func newChance(seed int64) chance { return chance{rand.New(rand.NewSource(seed))} }

func (r chance) literal(n int) int { return (1 + r.Intn(n)) * (1 - 2*r.Intn(2)) }

func (r chance) clause(n, most int) []int {
	var c []int
	for range r.Intn(most + 1) {
		c = append(c, r.literal(n))
	}
	return c
}

func (r chance) formula(n, clauses, most int) [][]int {
	var l [][]int
	for range clauses {
		l = append(l, append(r.clause(n, most-1), r.literal(n)))
	}
	return l
}

func checkTidy(t *testing.T, c []int) {
	t.Helper()
	l, both := clause.Tidy(c)
	if want, wantBoth := tidyOf(c); !slices.Equal(l, want) || both != wantBoth {
		t.Fatalf("%.300v: %.300v %v, not %.300v %v", c, l, both, want, wantBoth)
	}
}

func checkUnits(t *testing.T, n int, l [][]int, given []int) ([]int, bool) {
	t.Helper()
	a, ok := clause.Units(n, l, given)
	if want, wantOk := unitsOf(n, l, given); !slices.Equal(a, want) || ok != wantOk || !ok && a != nil {
		t.Fatalf("%d %.300v %.300v: %.300v %v, not %.300v %v", n, l, given, a, ok, want, wantOk)
	}
	return a, ok
}

func checkText(t *testing.T, s string) api.Errno {
	t.Helper()
	n, l, err := clause.Parse(s)
	if m, want, wantErr := parseOf(s); n != m || !sameFormula(l, want) || err != wantErr || err != api.OK && l != nil {
		t.Fatalf("%.300q: %d %.300v %v, not %d %.300v %v", s, n, l, err, m, want, wantErr)
	}
	if err == api.OK && clause.Print(n, l) != s {
		t.Fatalf("%.300q: printed as %.300q", s, clause.Print(n, l))
	}
	return err
}

// The chapter's examples.
func TestExamples(t *testing.T) {
	if l, both := clause.Tidy([]int{3, -1, 3, 1}); !slices.Equal(l, []int{1, -1, 3}) || !both {
		t.Error(l, both)
	}
	if a, ok := clause.Units(3, [][]int{{1}, {-1, 2}, {-2, 3}}, nil); !slices.Equal(a, []int{1, 1, 1}) || !ok {
		t.Error(a, ok)
	}
	if a, ok := clause.Units(1, [][]int{{1}, {-1}}, nil); a != nil || ok {
		t.Error(a, ok)
	}
	if l, ok := clause.Resolve([]int{1, 2}, []int{-1, 3}, 1); !slices.Equal(l, []int{2, 3}) || !ok {
		t.Error(l, ok)
	}
	if s := clause.Print(2, [][]int{{1, -2}}); s != "p cnf 2 1\n1 -2 0\n" {
		t.Error(s)
	}
}

// M1: which formulas are right, at each bound.
func TestRight(t *testing.T) {
	long := slices.Repeat([]int{1, -1}, 10000)
	many := slices.Repeat([][]int{{1}}, 400000)
	for i, c := range []struct {
		n    int
		l    [][]int
		want bool
	}{
		{0, nil, true},
		{0, [][]int{nil, {}}, true},
		{0, [][]int{{0}}, false},
		{0, [][]int{{1}}, false},
		{1, [][]int{{1, -1, 1}}, true},
		{1, [][]int{{1}, {-1}, {0}}, false},
		{1, [][]int{{1, 2}}, false},
		{1, [][]int{{1, -2}}, false},
		{-1, nil, false},
		{-1, [][]int{{1}}, false},
		{math.MinInt, nil, false},
		{math.MaxInt, nil, false},
		{20000, [][]int{{20000, -20000}}, true},
		{20000, [][]int{{20001}}, false},
		{20000, [][]int{{-20001}}, false},
		{20001, nil, false},
		{20001, [][]int{{1}}, false},
		{5, [][]int{{math.MinInt}}, false},
		{5, [][]int{{math.MinInt + 1}}, false},
		{5, [][]int{{math.MaxInt}}, false},
		{5, [][]int{{1<<32 + 1}}, false},
		{1, [][]int{long, {}, long}, true},
		{1, [][]int{{}, append(slices.Clone(long), 1)}, false},
		{1, many, true},
		{1, append(slices.Clone(many), nil), false},
		{1, slices.Repeat([][]int{nil}, 400000), true},
		{1, slices.Repeat([][]int{nil}, 400001), false},
		{0, many, false},
	} {
		if clause.Right(c.n, c.l) != c.want || rightOf(c.n, c.l) != c.want {
			t.Error(i)
		}
	}
	for at := range long { // one that is none, wherever it stands
		for _, x := range []int{0, 2, -2} {
			if at > 3 && at < len(long)-3 {
				continue
			}
			c := slices.Clone(long)
			c[at] = x
			if clause.Right(1, [][]int{{1}, c, {1}}) {
				t.Error(at, x)
			}
		}
	}
	for n := -1; n < 4; n++ {
		for _, l := range rows(rows([]int{-3, -2, -1, 0, 1, 2, 3}, 2), 2) {
			if clause.Right(n, l) != rightOf(n, l) {
				t.Error(n, l)
			}
		}
	}
}

// M1: clauses tidied, all of few literals and some of many.
func TestTidy(t *testing.T) {
	for _, c := range rows([]int{-3, -2, -1, 1, 2, 3}, 6) {
		checkTidy(t, c)
	}
	most := math.MaxInt
	for _, c := range rows([]int{-most, -most + 1, -1 << 32, -1 << 31, -2, 2, 1 << 31, 1 << 32, most - 1, most}, 4) {
		checkTidy(t, c)
	}
	r := newChance(1)
	for range 2000 {
		n := 1 + r.Intn(200)
		checkTidy(t, r.clause(n, 300))
	}
	for i, c := range []struct {
		c, want []int
		both    bool
	}{
		{nil, nil, false},
		{[]int{}, nil, false},
		{[]int{7}, []int{7}, false},
		{[]int{7, 7, 7}, []int{7}, false},
		{[]int{-7, 7}, []int{7, -7}, true},
		{[]int{7, -7}, []int{7, -7}, true},
		{[]int{3, 2, 1}, []int{1, 2, 3}, false},
		{[]int{-3, -2, -1}, []int{-1, -2, -3}, false},
		{[]int{-3, 2, -1, 2, -3}, []int{-1, 2, -3}, false},
		{[]int{4, -4, 3, -5, 4, -4}, []int{3, 4, -4, -5}, true},
		{[]int{math.MaxInt, 1, -math.MaxInt}, []int{1, math.MaxInt, -math.MaxInt}, true},
		{[]int{1, 0, -1, 0}, []int{0, 1, -1}, true}, // a literal 0 is there once too
		{[]int{1, 0, 0}, []int{0, 1}, false},
	} {
		if l, both := clause.Tidy(c.c); !slices.Equal(l, c.want) || both != c.both {
			t.Error(i, l, both)
		}
	}
}

// M1: of many literals just two may be of one variable, wherever they stand.
func TestTidyLong(t *testing.T) {
	r := newChance(2)
	for _, n := range []int{11, 12, 13, 49, 50, 51, 1000, 20000} {
		rising := make([]int, n)
		for i := range rising {
			rising[i] = (i + 1) * (1 - i%3%2*2)
		}
		falling, mixed := slices.Clone(rising), slices.Clone(rising)
		slices.Reverse(falling)
		r.Shuffle(n, func(i, j int) { mixed[i], mixed[j] = mixed[j], mixed[i] })
		for _, c := range [][]int{rising, falling, mixed, slices.Repeat(mixed, 3)} {
			if l, both := clause.Tidy(c); !slices.Equal(l, rising) || both {
				t.Error(n, both)
			}
		}
		for _, at := range []int{0, 1, n / 2, n - 2, n - 1} {
			for _, c := range [][]int{rising, falling, mixed} {
				for _, put := range []int{0, at, n} {
					l, both := clause.Tidy(slices.Insert(slices.Clone(c), put, -rising[at]))
					want := slices.Insert(slices.Clone(rising), at, rising[at])
					want[at], want[at+1] = max(rising[at], -rising[at]), min(rising[at], -rising[at])
					if !slices.Equal(l, want) || !both {
						t.Error(n, at, put, both)
					}
				}
			}
		}
	}
}

// M1: what clauses are worth by assignments of numbers of any kind, and of any length.
func TestValue(t *testing.T) {
	assignments := rows([]int{-1, 0, 1}, 3)
	assignments = append(assignments, []int{math.MinInt, math.MaxInt, 7, -7})
	for _, a := range assignments {
		for _, c := range rows([]int{-3, -2, -1, 0, 1, 2, 3}, 3) {
			if n := clause.Value(c, a); n != valueOf(c, a) {
				t.Fatal(c, a, n)
			}
		}
	}
	a := []int{5, -5, 0, math.MaxInt, math.MinInt}
	for i, c := range []struct {
		c    []int
		want int
	}{
		{nil, -1}, {[]int{}, -1},
		{[]int{1}, 1}, {[]int{-1}, -1}, {[]int{2}, -1}, {[]int{-2}, 1}, {[]int{3}, 0}, {[]int{-3}, 0},
		{[]int{4}, 1}, {[]int{-4}, -1}, {[]int{5}, -1}, {[]int{-5}, 1},
		{[]int{-1, 2, -4, 5}, -1}, {[]int{-1, 2, -4, 5, 3}, 0}, {[]int{-1, 2, -4, 5, -5}, 1},
		{[]int{3, 1}, 1}, {[]int{1, -1}, 1}, {[]int{-1, 1}, 1}, {[]int{3, -3}, 0},
		{[]int{0}, 0}, {[]int{-1, 0}, 0}, {[]int{0, 1}, 1}, {[]int{6}, 0}, {[]int{-6}, 0}, {[]int{-1, 6}, 0}, {[]int{-1, -6}, 0}, {[]int{6, 4}, 1},
		{[]int{math.MinInt}, 0}, {[]int{math.MaxInt}, 0}, {[]int{-math.MaxInt}, 0}, {[]int{math.MinInt, -1}, 0}, {[]int{math.MinInt, 1}, 1},
	} {
		if n := clause.Value(c.c, a); n != c.want || valueOf(c.c, a) != c.want {
			t.Error(i, n)
		}
	}
	if n := clause.Value([]int{1}, nil); n != 0 {
		t.Error(n)
	}
}

// M1: whether formulas hold by truths of any length.
func TestHolds(t *testing.T) {
	pieces := rows([]int{-2, -1, 0, 1, 2}, 2)
	for _, m := range rows([]bool{false, true}, 3) {
		for _, l := range rows(pieces, 2) {
			if clause.Holds(l, m) != holdsOf(l, m) {
				t.Fatal(l, m)
			}
		}
	}
	m := []bool{true, false, true}
	for i, c := range []struct {
		l    [][]int
		want bool
	}{
		{nil, true}, {[][]int{}, true}, {[][]int{{}}, false}, {[][]int{{1}, {}}, false}, {[][]int{nil, {1}}, false},
		{[][]int{{1}}, true}, {[][]int{{-1}}, false}, {[][]int{{2}}, false}, {[][]int{{-2}}, true}, {[][]int{{3}}, true},
		{[][]int{{-1, 2, -3}}, false}, {[][]int{{-1, 2, 3}}, true}, {[][]int{{1, -1}}, true},
		{[][]int{{1}, {-2}, {3}}, true}, {[][]int{{1}, {2}, {3}}, false}, {[][]int{{-1}, {-2}, {3}}, false}, {[][]int{{1}, {-2}, {-3}}, false},
		{[][]int{{0}}, false}, {[][]int{{0, 1}}, true}, {[][]int{{4}}, false}, {[][]int{{-4}}, false}, {[][]int{{4, -4}}, false}, {[][]int{{4, -4, 1}}, true},
		{[][]int{{math.MinInt}}, false}, {[][]int{{math.MaxInt}}, false}, {[][]int{{math.MinInt, -2}}, true}, {[][]int{{1<<32 + 1}}, false},
	} {
		if clause.Holds(c.l, m) != c.want || holdsOf(c.l, m) != c.want {
			t.Error(i)
		}
	}
	if clause.Holds([][]int{{1}}, nil) || clause.Holds([][]int{{-1}}, nil) || !clause.Holds(nil, nil) {
		t.Error("by no truths")
	}
}

// M2: by hand, what must follow.
func TestUnits(t *testing.T) {
	for i, c := range []struct {
		n     int
		l     [][]int
		given []int
		want  string
	}{
		{0, nil, nil, "[] true"},
		{0, [][]int{{}}, nil, "[] false"},
		{3, nil, nil, "[0 0 0] true"},
		{3, nil, []int{-2}, "[0 -1 0] true"},
		{3, nil, []int{3, -2, 3, -2}, "[0 -1 1] true"},
		{3, nil, []int{3, -2, -3}, "[] false"},
		{3, nil, []int{-3, -2, 3}, "[] false"},
		{3, nil, []int{1, 0}, "[] false"},
		{3, nil, []int{1, 4}, "[] false"},
		{3, nil, []int{1, -4}, "[] false"},
		{3, nil, []int{math.MinInt}, "[] false"},
		{3, nil, []int{math.MaxInt}, "[] false"},
		{0, nil, []int{1}, "[] false"},
		{0, nil, []int{0}, "[] false"},
		{2, [][]int{{1}}, nil, "[1 0] true"},
		{2, [][]int{{-2}}, nil, "[0 -1] true"},
		{2, [][]int{{-2, -2, -2}}, nil, "[0 -1] true"}, // counted once
		{2, [][]int{{1, 2, 1, 2}}, []int{-1}, "[-1 1] true"},
		{2, [][]int{{1, 2, 1, 2}}, nil, "[0 0] true"},
		{2, [][]int{{1, 1}, {-1, -1}}, nil, "[] false"},
		{2, [][]int{{1, -1}}, nil, "[0 0] true"}, // two literals, of one variable
		{2, [][]int{{1, -1, 2}}, []int{-2}, "[0 -1] true"},
		{2, [][]int{{1, -1, 2}}, []int{-2, 1}, "[1 -1] true"},
		{3, [][]int{{1, 2, 3}}, []int{-1, -2}, "[-1 -1 1] true"},
		{3, [][]int{{1, 2, 3}}, []int{-1, 2}, "[-1 1 0] true"}, // it holds: nothing follows
		{3, [][]int{{1, 2, 3}}, []int{-1, -2, -3}, "[] false"},
		{3, [][]int{{1, 2, 3}}, []int{-1, -2, 3}, "[-1 -1 1] true"},
		{3, [][]int{{1, 2}, {}}, nil, "[] false"},
		{3, [][]int{{}, {1, 2}}, []int{1, 2}, "[] false"},
		{3, [][]int{{2, 3}, {-2, 3}}, nil, "[0 0 0] true"}, // 3 follows, but no clause tells it alone
		{3, [][]int{{2, 3}, {-2, 3}}, []int{-3}, "[] false"},
		{4, [][]int{{-3, 4}, {-2, 3}, {-1, 2}, {1}}, nil, "[1 1 1 1] true"},
		{4, [][]int{{-3, 4}, {-2, 3}, {-1, 2}}, []int{1}, "[1 1 1 1] true"},
		{4, [][]int{{-3, 4}, {-2, 3}, {-1, 2}}, []int{-4}, "[-1 -1 -1 -1] true"},
		{4, [][]int{{-3, 4}, {-2, 3}, {-1, 2}}, []int{2}, "[0 1 1 1] true"},
		{4, [][]int{{-3, 4}, {-2, 3}, {-1, 2}, {-4, -1}}, []int{1}, "[] false"},
		{4, [][]int{{-1, -2, -3, 4}, {1}, {-1, 2}, {-2, 3}}, nil, "[1 1 1 1] true"},
		{4, [][]int{{-1, -2, -3, -4}, {1}, {2}, {3}, {4}}, nil, "[] false"},
		{2, [][]int{{1, 3}}, nil, "[] false"}, // not right
		{2, [][]int{{1, 0}}, []int{1}, "[] false"},
		{2, [][]int{{1}, {math.MinInt}}, nil, "[] false"},
		{-1, nil, nil, "[] false"},
		{math.MinInt, nil, nil, "[] false"},
		{20001, nil, nil, "[] false"},
		{math.MaxInt, nil, nil, "[] false"},
	} {
		a, ok := checkUnits(t, c.n, c.l, c.given)
		if s := fmt.Sprint(a, ok); s != c.want {
			t.Error(i, s)
		}
	}
}

// M2: all formulas of few short clauses, with all that may be given.
func TestUnitsAll(t *testing.T) {
	counted := map[bool]int{}
	given := rows([]int{-3, -2, -1, 0, 1, 2, 3}, 2)
	for _, l := range rows(rows([]int{-2, -1, 1, 2}, 3), 2) {
		for _, g := range given {
			_, ok := checkUnits(t, 2, l, g)
			counted[ok]++
		}
	}
	for _, l := range rows(rows([]int{-2, -1, 1, 2}, 2), 3) {
		_, ok := checkUnits(t, 2, l, nil)
		counted[ok]++
	}
	for _, l := range rows(rows([]int{-2, -1, 0, 1, 2}, 1), 3) { // formulas that are not right among them
		for n := -1; n < 3; n++ {
			_, ok := checkUnits(t, n, l, []int{1})
			counted[ok]++
		}
	}
	if counted[true] < 10000 || counted[false] < 10000 {
		t.Error(counted)
	}
}

// M2: formulas of more clauses, and longer ones.
func TestUnitsMany(t *testing.T) {
	r := newChance(3)
	counted := map[string]int{}
	for range 40000 {
		n := 1 + r.Intn(12)
		l := r.formula(n, r.Intn(3*n), 1+r.Intn(5))
		a, ok := checkUnits(t, n, l, r.clause(n, 4))
		counted[strconv.FormatBool(ok)]++
		if ok && !slices.Contains(a, 0) {
			counted["whole"]++
		}
	}
	if counted["true"] < 5000 || counted["false"] < 5000 || counted["whole"] < 500 {
		t.Error(counted)
	}
}

// numbers are 1 to n.
func numbers(n int) []int {
	var l []int
	for v := range n {
		l = append(l, v+1)
	}
	return l
}

// M2, P1: as much as there may be: what follows from the last clause on, one by one, long clauses, many clauses.
func TestUnitsFull(t *testing.T) {
	const n = 20000
	var chain [][]int
	for v := n - 1; v > 0; v-- {
		chain = append(chain, []int{-v, v + 1})
	}
	full := append(slices.Repeat(chain, 20), slices.Repeat([][]int{{n}}, 20)...)
	every := slices.Repeat([]int{1}, n)
	for i, c := range []struct {
		l     [][]int
		given []int
		want  []int
	}{
		{full, []int{1}, every},
		{full, []int{-n}, nil},
		{append(slices.Clone(full), []int{-n}), nil, nil},
		{append(slices.Clone(full), []int{-n, -1}), []int{1}, nil},
		{append(slices.Clone(chain), []int{1}), nil, every},
		{slices.Repeat([][]int{numbers(n)}, 100), slices.Repeat([]int{1}, 1<<20), append([]int{1}, make([]int, n-1)...)},
	} {
		a, ok := clause.Units(n, c.l, c.given)
		if !slices.Equal(a, c.want) || ok != (c.want != nil) {
			t.Error(i, ok)
		}
	}
	// All literals of long clauses but the last one come to be false, one after the other.
	falling := [][]int{{-1}}
	for v := 1; v < n-1; v++ {
		falling = append(falling, []int{v, -v - 1})
	}
	long := slices.Repeat([][]int{numbers(n)}, 1000)
	want := append(slices.Repeat([]int{-1}, n-1), 1)
	for i, l := range [][][]int{slices.Concat(falling, long), slices.Concat(long, falling)} {
		if a, ok := clause.Units(n, l, nil); !slices.Equal(a, want) || !ok {
			t.Error(i, ok)
		}
		if a, ok := clause.Units(n, append(l, []int{-n, n - 1}), nil); a != nil || ok {
			t.Error(i, ok)
		}
	}
	if a, ok := clause.Units(n, slices.Repeat([][]int{{1}}, 400000), nil); len(a) != n || !ok {
		t.Error(ok)
	}
	if a, ok := clause.Units(n, slices.Repeat([][]int{{1}}, 400001), nil); a != nil || ok {
		t.Error(ok)
	}
}

// M3: all short clauses, of each variable.
func TestResolve(t *testing.T) {
	clauses := rows([]int{-2, -1, 1, 2, 3}, 3)
	counted := map[bool]int{}
	for _, a := range clauses {
		for _, b := range clauses {
			for _, v := range []int{-1, 0, 1, 2} {
				l, ok := clause.Resolve(a, b, v)
				counted[ok]++
				if want, wantOk := resolveOf(a, b, v); !slices.Equal(l, want) || ok != wantOk || !ok && l != nil {
					t.Fatal(a, b, v, l, ok)
				}
			}
		}
	}
	if counted[true] < 1000 || counted[false] < 1000 {
		t.Error(counted)
	}
	for i, c := range []struct {
		a, b []int
		v    int
		want string
	}{
		{[]int{1}, []int{-1}, 1, "[] true"},
		{[]int{3, 1, 2, 1}, []int{-1, -4, 3, -1}, 1, "[2 3 -4] true"},
		{[]int{1, 2}, []int{-1, -2}, 1, "[2 -2] true"},
		{[]int{1, 2}, []int{-1, -2}, 2, "[1 -1] true"},
		{[]int{1, -1}, []int{1, -1}, 1, "[1 -1] true"}, // -v of a, and v of b, stay
		{[]int{1, -1}, []int{-1}, 1, "[-1] true"},
		{[]int{1}, []int{1, -1}, 1, "[1] true"},
		{nil, nil, 1, "[] false"},
		{[]int{1}, nil, 1, "[] false"},
		{nil, []int{-1}, 1, "[] false"},
		{[]int{1}, []int{1}, 1, "[] false"},
		{[]int{-1}, []int{-1}, 1, "[] false"},
		{[]int{-1}, []int{1}, 1, "[] false"},
		{[]int{1, 2}, []int{-1, 2}, 2, "[] false"},
		{[]int{-1}, []int{1}, -1, "[] false"},
		{[]int{0}, []int{0}, 0, "[] false"},
		{[]int{math.MinInt}, []int{math.MinInt}, math.MinInt, "[] false"},
		{[]int{math.MaxInt, 1}, []int{-math.MaxInt, 2}, math.MaxInt, "[1 2] true"},
	} {
		l, ok := clause.Resolve(c.a, c.b, c.v)
		if s := fmt.Sprint(l, ok); s != c.want {
			t.Error(i, s)
		}
	}
	long := numbers(20000)
	with := append([]int{-20000}, long[:19999]...)
	if l, ok := clause.Resolve(long, with, 20000); !slices.Equal(l, long[:19999]) || !ok {
		t.Error(len(l), ok)
	}
}

// M4: what is printed, right or not.
func TestPrint(t *testing.T) {
	for i, c := range []struct {
		n    int
		l    [][]int
		want string
	}{
		{0, nil, "p cnf 0 0\n"},
		{0, [][]int{}, "p cnf 0 0\n"},
		{0, [][]int{nil, {}}, "p cnf 0 2\n0\n0\n"},
		{7, nil, "p cnf 7 0\n"},
		{20000, [][]int{{20000, -20000}, {-1}}, "p cnf 20000 2\n20000 -20000 0\n-1 0\n"},
		{3, [][]int{{3, 1, 3, -3}, {}, {2}}, "p cnf 3 3\n3 1 3 -3 0\n0\n2 0\n"}, // as they stand
		{1, [][]int{{2}}, ""},
		{1, [][]int{{1}, {0}}, ""},
		{1, [][]int{{math.MinInt}}, ""},
		{-1, nil, ""},
		{20001, nil, ""},
		{math.MinInt, nil, ""},
	} {
		if s := clause.Print(c.n, c.l); s != c.want || printOf(c.n, c.l) != c.want {
			t.Errorf("%d %q", i, s)
		}
	}
	for n := -1; n < 3; n++ {
		for _, l := range rows(rows([]int{-2, -1, 0, 1, 2}, 2), 2) {
			if s := clause.Print(n, l); s != printOf(n, l) {
				t.Fatalf("%d %v %q", n, l, s)
			}
		}
	}
	// What is too long to be read is printed all the same.
	if s := clause.Print(1, slices.Repeat([][]int{{-1}}, 400000)); s != "p cnf 1 400000\n"+strings.Repeat("-1 0\n", 400000) {
		t.Error(len(s))
	}
	if s := clause.Print(1, slices.Repeat([][]int{{-1}}, 400001)); s != "" {
		t.Error(len(s))
	}
	if s := clause.Print(1, [][]int{slices.Repeat([]int{1}, 20001)}); s != "" {
		t.Error(len(s))
	}
}

// M4: what is printed is read as the same.
func TestReadAgain(t *testing.T) {
	r := newChance(4)
	for i := range 5000 {
		n := 1 + r.Intn(1+i*4)
		l := r.formula(n, r.Intn(20), 6)
		for k := range l {
			if r.Intn(5) == 0 {
				l[k] = nil
			}
		}
		s := clause.Print(n, l)
		if m, again, err := clause.Parse(s); s != printOf(n, l) || m != n || !sameFormula(again, l) || err != api.OK {
			t.Fatalf("%q: %d %v %v", s, m, again, err)
		}
	}
}

// M4: texts of few pieces, right and wrong.
func TestParsePieces(t *testing.T) {
	counted := map[api.Errno]int{}
	for _, row := range rows([]string{"p cnf ", "0", "1", "2", "-", " ", "\n", "1 0\n", "0\n", "-2 "}, 5) {
		counted[checkText(t, strings.Join(row, ""))]++
	}
	for _, head := range []string{"p cnf 2 0\n", "p cnf 2 1\n", "p cnf 2 2\n", "p cnf 20000 1\n", "p cnf 0 1\n"} {
		for _, row := range rows([]string{"0", "1", "-2", "+", "-", " ", "\n", "0\n", "3 ", "20000 "}, 4) {
			counted[checkText(t, head+strings.Join(row, ""))]++
		}
	}
	if counted[api.OK] < 50 || counted[api.ErrForm] < 10000 {
		t.Error(counted)
	}
}

// M4: right texts of which one byte is another, is not there, or is there once more.
func TestParseBytes(t *testing.T) {
	for _, s := range []string{"p cnf 0 0\n", "p cnf 12 0\n", "p cnf 2 3\n1 -2 0\n0\n2 0\n", "p cnf 20000 1\n-20000 19999 1 0\n"} {
		if err := checkText(t, s); err != api.OK {
			t.Errorf("%q %v", s, err)
		}
		for at := range len(s) {
			for b := range 256 {
				one := string([]byte{byte(b)})
				checkText(t, s[:at]+one+s[at+1:])
				checkText(t, s[:at]+one+s[at:])
			}
			checkText(t, s[:at]+s[at+1:])
			checkText(t, s[:at])
			checkText(t, s[at:])
		}
		for b := range 256 {
			if err := checkText(t, s+string([]byte{byte(b)})); err != api.ErrForm {
				t.Errorf("%q %d %v", s, b, err)
			}
		}
	}
}

// M4: by hand, texts that are nearly right.
func TestParseWrong(t *testing.T) {
	for _, s := range []string{
		"", "\n", "p", "p cnf", "p cnf ", "p cnf \n", "p cnf 1", "p cnf 1 ", "p cnf 1 \n", "p cnf 1 0", "p cnf 1 0 \n", "p cnf 1 0\r\n", "\np cnf 1 0\n", " p cnf 1 0\n", "c x\np cnf 1 0\n", "p  cnf 1 0\n", "p cnf  1 0\n", "p cnf 1  0\n", "pcnf 1 0\n", "1 0\n", "p cnf p cnf 1 0\n",
		"p cnf 1 00\n", "p cnf 00 0\n", "p cnf +1 0\n", "p cnf 1 +0\n", "p cnf -0 0\n", "p cnf 1 -0\n", "p cnf -1 0\n", "p cnf 1 -1\n", "p cnf 1 1\n", "p cnf 1 0\n0\n", "p cnf 1 2\n0\n", "p cnf 1 1\n0\n0\n", "p cnf 0x1 0\n", "p cnf 1_0 0\n", "p cnf x 0\n", "p cnf 1 x\n", "p cnf 1.0 0\n",
		"p cnf 20001 0\n", "p cnf 9223372036854775807 0\n", "p cnf 9223372036854775808 0\n", "p cnf 18446744073709551617 0\n", "p cnf 1 18446744073709551616\n", "p cnf 1 4294967297\n0\n", "p cnf 99999999999999999999999999999999 0\n", "p cnf -9223372036854775808 0\n",
		"p cnf 1 1\n2 0\n", "p cnf 1 1\n-2 0\n", "p cnf 0 1\n1 0\n", "p cnf 1 1\n0 0\n", "p cnf 1 1\n-0 0\n", "p cnf 1 1\n1 0 0\n", "p cnf 1 1\n1\n", "p cnf 1 1\n1 \n", "p cnf 1 1\n1 1\n", "p cnf 1 1\n1 -0\n", "p cnf 1 1\n1 00\n", "p cnf 1 1\n10\n", "p cnf 1 1\n1 0 \n", "p cnf 1 1\n1  0\n", "p cnf 1 1\n 1 0\n", "p cnf 1 1\n 0\n", "p cnf 1 1\n1 0", "p cnf 1 1\n1 0\n\n", "p cnf 1 2\n1 0\n\n", "p cnf 1 1\n\n", "p cnf 1 1\n1\t0\n", "p cnf 1 1\n1 0\r\n", "p cnf 1 1\n1 0\x00\n", "p cnf 1 1\n1\n0\n", "p cnf 1 1\n1 x 0\n", "p cnf 1 1\n18446744073709551617 0\n", "p cnf 1 1\n-9223372036854775808 0\n", "p cnf 1 1\n٣ 0\n",
	} {
		if n, l, err := clause.Parse(s); n != 0 || l != nil || err != api.ErrForm {
			t.Errorf("%q: %d %v %v", s, n, l, err)
		}
		checkText(t, s)
	}
}

// M4: texts that are as long as they may be, and longer ones; clauses that are too long.
func TestParseLong(t *testing.T) {
	long := func(first string) string { return "p cnf 1 29992\n" + first + strings.Repeat("0\n", 29991) }
	for i, c := range []struct {
		s    string
		size int
		want api.Errno
	}{
		{long("0\n"), 59998, api.OK},
		{long("1 0\n"), 60000, api.OK},
		{long("0 0\n"), 60000, api.ErrForm},
		{long("-1 0\n"), 60001, api.ErrLong},
		{strings.Repeat("\xff", 60000), 60000, api.ErrForm},
		{strings.Repeat("\xff", 60001), 60001, api.ErrLong},
		{strings.Repeat("\n", 60000), 60000, api.ErrForm},
		{strings.Repeat(" ", 60000), 60000, api.ErrForm},
		{"p cnf " + strings.Repeat("9", 59991) + " 0\n", 60000, api.ErrForm},
		{strings.Repeat("p cnf 1 0\n", 1<<20), 10 << 20, api.ErrLong},
		{"p cnf 1 1\n" + strings.Repeat("1 ", 20000) + "0\n", 40012, api.OK},
		{"p cnf 1 1\n" + strings.Repeat("1 ", 20001) + "0\n", 40014, api.ErrForm},
	} {
		if err := checkText(t, c.s); err != c.want || len(c.s) != c.size {
			t.Error(i, err, len(c.s))
		}
	}
}

// orders calls f with l in each of its orders.
func orders(l [][]int, n int, f func([][]int)) {
	if n == len(l) {
		f(l)
		return
	}
	for i := n; i < len(l); i++ {
		l[n], l[i] = l[i], l[n]
		orders(l, n+1, f)
		l[n], l[i] = l[i], l[n]
	}
}

// M5: whatever order the clauses have, and the literals, Units tells the same.
func TestUnitsInAnyOrder(t *testing.T) {
	r := newChance(5)
	for range 300 {
		n := 2 + r.Intn(4)
		l, given := r.formula(n, 1+r.Intn(6), 3), r.clause(n, 2)
		want, wantOk := clause.Units(n, l, given)
		orders(l, 0, func(l [][]int) {
			if a, ok := clause.Units(n, l, given); !slices.Equal(a, want) || ok != wantOk {
				t.Fatal(l, given, a, ok, want, wantOk)
			}
		})
		for _, c := range append(l, given) {
			slices.Reverse(c)
		}
		if a, ok := clause.Units(n, l, given); !slices.Equal(a, want) || ok != wantOk {
			t.Fatal(l, given, a, ok, want, wantOk)
		}
	}
	for range 20 {
		l, given := r.formula(300, 500, 3), r.clause(300, 20)
		want, wantOk := clause.Units(300, l, given)
		for range 20 {
			r.Shuffle(len(l), func(i, j int) { l[i], l[j] = l[j], l[i] })
			if a, ok := clause.Units(300, l, given); !slices.Equal(a, want) || ok != wantOk {
				t.Fatal(ok, wantOk)
			}
		}
	}
}

// M5: what Units makes true is true in each model that has given; where it tells false, there is none.
func TestUnitsFollow(t *testing.T) {
	r := newChance(6)
	counted := map[bool]int{}
	for range 5000 {
		n := 1 + r.Intn(6)
		l, given := r.formula(n, 1+r.Intn(2*n), 3), r.clause(n, 2)
		a, ok := clause.Units(n, l, given)
		for _, m := range truths(n) {
			if !clause.Holds(l, m) || !hasAll(m, given) {
				continue
			}
			counted[ok]++
			if !ok {
				t.Fatal(l, given, m)
			}
			for i, x := range a {
				if x != 0 && m[i] != (x > 0) {
					t.Fatal(l, given, a, m)
				}
			}
		}
		if ok && !slices.Contains(a, 0) && !clause.Holds(l, truthsOf(a)) {
			t.Fatal(l, given, a)
		}
	}
	if counted[true] < 1000 {
		t.Error(counted)
	}
}

func hasAll(m []bool, l []int) bool {
	for _, x := range l {
		if m[abs(x)-1] != (x > 0) {
			return false
		}
	}
	return true
}

func truthsOf(a []int) []bool {
	var m []bool
	for _, x := range a {
		m = append(m, x > 0)
	}
	return m
}

// M5: what makes two clauses hold makes what is resolved of them hold.
func TestResolveFollows(t *testing.T) {
	clauses := rows([]int{-3, -2, -1, 1, 2, 3}, 3)
	all := truths(3)
	for _, a := range clauses {
		for _, b := range clauses {
			l, ok := clause.Resolve(a, b, 1)
			if !ok {
				continue
			}
			for _, m := range all {
				if clause.Holds([][]int{a, b}, m) && !clause.Holds([][]int{l}, m) {
					t.Fatal(a, b, l, m)
				}
			}
		}
	}
}

// M1: Value of a whole assignment is what Holds tells of the clause alone.
func TestValueHolds(t *testing.T) {
	for _, c := range rows([]int{-3, -2, -1, 1, 2, 3}, 4) {
		for _, m := range truths(3) {
			var a []int
			for _, yes := range m {
				a = append(a, 1)
				if !yes {
					a[len(a)-1] = -1
				}
			}
			if (clause.Value(c, a) == 1) != clause.Holds([][]int{c}, m) || clause.Value(c, a) == 0 {
				t.Fatal(c, m)
			}
		}
	}
}

// P3: what is handed in is not written into, neither behind its length; what is answered shares nothing with it, and no two lists of it share anything.
func TestListsAreTheirOwn(t *testing.T) {
	c := []int{3, -1, 3, 1, 99, 98}
	d := []int{-3, 2, -3, 2, 97}
	l := [][]int{c[:4], d[:4], []int{-2, 3, 96}[:2], {95}}
	m := []bool{true, false, true}
	a := []int{1, -1, 0}
	given := []int{1, 1, 94}
	was := fmt.Sprint(c, d, l[:4], m, a, given)
	for range 2 {
		x, _ := clause.Tidy(c[:4])
		y, _ := clause.Resolve(c[:4], d[:4], 3)
		z, ok := clause.Units(3, l[:3], given[:2])
		if fmt.Sprint(x, y, z, ok) != "[1 -1 3] [1 -1 2] [1 0 0] true" {
			t.Error(x, y, z, ok)
		}
		clause.Right(3, l[:3])
		clause.Value(c[:4], a)
		clause.Holds(l[:3], m)
		if s := clause.Print(3, l[:3]); s != "p cnf 3 3\n3 -1 3 1 0\n-3 2 -3 2 0\n-2 3 0\n" {
			t.Error(s)
		}
		if now := fmt.Sprint(c, d, l[:4], m, a, given); now != was {
			t.Error(now)
		}
		for _, answer := range [][]int{x, y, z} {
			spoil(answer)
		}
		if now := fmt.Sprint(c, d, l[:4], m, a, given); now != was {
			t.Error(now)
		}
	}
	// A list that is tidy as it is handed in is answered as another one too.
	tidy := []int{1, 2}
	x, _ := clause.Tidy(tidy)
	spoil(x)
	if !slices.Equal(tidy, []int{1, 2}) {
		t.Error(tidy)
	}
}

// spoil writes into all that lies in a list, and behind it as far as there is room.
func spoil(l []int) {
	l = l[:cap(l)]
	for i := range l {
		l[i] = -77
	}
}

// P3: the clauses that are read share nothing.
func TestReadListsAreTheirOwn(t *testing.T) {
	const s = "p cnf 3 4\n1 0\n1 2 3 0\n0\n-3 2 0\n"
	for at := range 4 {
		_, l, _ := clause.Parse(s)
		_, want, _ := clause.Parse(s)
		spoil(l[at])
		for i := range l {
			if i != at && !slices.Equal(l[i], want[i]) {
				t.Error(at, i, l[i])
			}
		}
		_ = append(l[at], 5, 6, 7)
		if _, again, _ := clause.Parse(s); !reflect.DeepEqual(again, want) {
			t.Error(again)
		}
	}
}

// P4: the same call answers the same.
func TestAgain(t *testing.T) {
	r := newChance(7)
	for range 50 {
		l, given := r.formula(200, 400, 3), r.clause(200, 10)
		a, ok := clause.Units(200, l, given)
		c := r.clause(200, 500)
		x, both := clause.Tidy(c)
		for range 5 {
			if b, okToo := clause.Units(200, l, given); !slices.Equal(a, b) || ok != okToo {
				t.Fatal(ok, okToo)
			}
			if y, bothToo := clause.Tidy(c); !slices.Equal(x, y) || both != bothToo {
				t.Fatal(both, bothToo)
			}
		}
	}
}

// P1: anything at all.
func TestAnything(t *testing.T) {
	edges := []int{math.MinInt, math.MinInt + 1, -20001, -1, 0, 1, 20000, math.MaxInt}
	for _, c := range rows(edges, 3) {
		clause.Tidy(c)
		l := [][]int{c, nil, c}
		for _, x := range edges {
			right := clause.Right(x, l)
			if right != rightOf(x, l) {
				t.Error(x, l)
			}
			if a, ok := clause.Units(x, l, c); ok || a != nil {
				t.Error(x, l, a)
			}
			if s := clause.Print(x, l); (s != "") != right {
				t.Error(x, l, s)
			}
			for _, d := range [][]int{nil, c, {x}, {x, -x}} {
				r, ok := clause.Resolve(c, d, x)
				if slices.Contains(slices.Concat(c, d), math.MinInt) {
					continue
				}
				if want, wantOk := resolveOf(c, d, x); !slices.Equal(r, want) || ok != wantOk {
					t.Error(c, d, x, r, ok)
				}
			}
		}
		for _, a := range [][]int{nil, {}, c} {
			if n := clause.Value(c, a); n != valueOf(c, a) {
				t.Error(c, a, n)
			}
		}
		for _, m := range [][]bool{nil, {}, {true}, {false, true}} {
			if clause.Holds([][]int{c}, m) != holdsOf([][]int{c}, m) {
				t.Error(c, m)
			}
		}
	}
	const many = 1 << 21
	mixed := slices.Repeat([]int{1, -1, 20000, 0, math.MaxInt, math.MinInt, -7}, many/7)
	if l, both := clause.Tidy(mixed); len(l) != 7 || !both {
		t.Error(l, both)
	}
	if n := clause.Value(mixed, []int{0}); n != 0 {
		t.Error(n)
	}
	if a, ok := clause.Units(20000, nil, mixed); a != nil || ok {
		t.Error(ok)
	}
	if clause.Right(20000, slices.Repeat([][]int{nil}, many)) || clause.Holds(slices.Repeat([][]int{{1}}, many), nil) {
		t.Error("many clauses")
	}
}
