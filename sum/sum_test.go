package sum_test

import (
	"math"
	"math/big"
	"slices"
	"testing"

	"keelson/api"
	"keelson/sum"
)

// edges are numbers at which sums and products just fit, or just do not.
func edges() []int {
	l := []int{0, math.MaxInt, math.MaxInt - 1, math.MinInt, math.MinInt + 1}
	for _, n := range []int{1, 2, 3, 1<<31 - 1, 1 << 31, 1<<31 + 1, 1 << 32, 3037000499, 3037000500, math.MaxInt / 3, 1<<62 - 1, 1 << 62, 1<<62 + 1} {
		l = append(l, n, -n)
	}
	return l
}

// fit is what a call has to answer whose true number is n.
func fit(n *big.Int) (int, api.Errno) {
	if !n.IsInt64() {
		return 0, api.ErrOver
	}
	return int(n.Int64()), api.OK
}

func number(n int) *big.Int { return big.NewInt(int64(n)) }

// totalOf is Total by numbers that have no bounds.
func totalOf(l []*big.Int) (int, api.Errno) {
	n := new(big.Int)
	for _, x := range l {
		if !x.IsInt64() {
			return 0, api.ErrOver
		}
		if n.Add(n, x); !n.IsInt64() {
			return 0, api.ErrOver
		}
	}
	return fit(n)
}

// S1: Add and Mul, at all pairs of edges.
func TestAddMul(t *testing.T) {
	for _, a := range edges() {
		for _, b := range edges() {
			want, wantErr := fit(new(big.Int).Add(number(a), number(b)))
			if n, e := sum.Add(a, b); n != want || e != wantErr {
				t.Error("Add", a, b, n, e)
			}
			want, wantErr = fit(new(big.Int).Mul(number(a), number(b)))
			if n, e := sum.Mul(a, b); n != want || e != wantErr {
				t.Error("Mul", a, b, n, e)
			}
		}
	}
}

// S1: Total goes from the first one on, and each sum on the way must fit.
func TestTotal(t *testing.T) {
	for i, c := range []struct {
		l []int
		n int
		e api.Errno
	}{
		{nil, 0, api.OK},
		{[]int{}, 0, api.OK},
		{[]int{-7}, -7, api.OK},
		{[]int{1, 2, 3, 4}, 10, api.OK},
		{[]int{math.MaxInt, 1, -1}, 0, api.ErrOver},
		{[]int{math.MaxInt, -1, 1}, math.MaxInt, api.OK},
		{[]int{-1, math.MaxInt, 1}, math.MaxInt, api.OK},
		{[]int{math.MinInt, -1, 1}, 0, api.ErrOver},
		{[]int{math.MinInt, 1, -1}, math.MinInt, api.OK},
		{[]int{5, 6, math.MaxInt}, 0, api.ErrOver},
	} {
		if n, e := sum.Total(c.l); n != c.n || e != c.e {
			t.Error(i, n, e)
		}
	}
	for _, a := range edges() {
		for _, b := range edges() {
			for _, c := range edges() {
				want, wantErr := totalOf([]*big.Int{number(a), number(b), number(c)})
				if n, e := sum.Total([]int{a, b, c}); n != want || e != wantErr {
					t.Error(a, b, c, n, e)
				}
			}
		}
	}
}

// S1: a long list, of which the last number alone is too much.
func TestTotalLong(t *testing.T) {
	l := slices.Repeat([]int{math.MaxInt >> 20}, 1<<20)
	l = append(l, 1<<20-1)
	if n, e := sum.Total(l); n != math.MaxInt || e != api.OK {
		t.Error(n, e)
	}
	if n, e := sum.Total(append(l, 1)); n != 0 || e != api.ErrOver {
		t.Error(n, e)
	}
}

// S1: Dot.
func TestDot(t *testing.T) {
	for i, c := range []struct {
		a, b []int
		n    int
		e    api.Errno
	}{
		{nil, nil, 0, api.OK},
		{nil, []int{}, 0, api.OK},
		{[]int{2, 3}, []int{4, 5}, 23, api.OK},
		{[]int{1, -2, 3}, []int{-4, 5, 6}, 4, api.OK},
		{nil, []int{0}, 0, api.ErrArg},
		{[]int{1, 2}, []int{1}, 0, api.ErrArg},
		{[]int{1}, []int{1, 2}, 0, api.ErrArg},
		{[]int{math.MaxInt, 1}, []int{2}, 0, api.ErrArg},                    // named first
		{[]int{math.MaxInt, math.MaxInt}, []int{2, -2}, 0, api.ErrOver},     // products that do not fit
		{[]int{math.MaxInt, 1, 1}, []int{1, 1, -1}, 0, api.ErrOver},         // a sum on the way that does not
		{[]int{math.MaxInt, 1, 1}, []int{1, -1, 1}, math.MaxInt, api.OK},    // each one fits
		{[]int{0, 1 << 32}, []int{math.MinInt, 1 << 31}, 0, api.ErrOver},    // 2^63
		{[]int{-1 << 32, 0}, []int{1 << 31, 9}, math.MinInt, api.OK},        // -2^63
		{[]int{-1, 1 << 62}, []int{1 << 62, -1}, math.MinInt, api.OK},       // -2^63
		{[]int{-1, 1 << 62, 1}, []int{1 << 62, -1, -1}, 0, api.ErrOver},     // one less
		{[]int{-1}, []int{math.MinInt}, 0, api.ErrOver},                     // 2^63
		{[]int{5, math.MinInt, 5}, []int{0, -1, 0}, 0, api.ErrOver},         // 2^63
		{[]int{5, math.MinInt, 5}, []int{0, 1, 0}, math.MinInt, api.OK},     // as it is
		{[]int{math.MinInt, math.MinInt}, []int{1, 0}, math.MinInt, api.OK}, // as it is
	} {
		if n, e := sum.Dot(c.a, c.b); n != c.n || e != c.e {
			t.Error(i, n, e)
		}
	}
}

// S1: Dot is Total of the products, at all pairs of edges.
func TestDotEdges(t *testing.T) {
	l := edges()
	for _, a := range l {
		for _, b := range l {
			for _, c := range []int{math.MinInt, -1, 0, 1, math.MaxInt} {
				first := new(big.Int).Mul(number(a), number(b))
				want, wantErr := totalOf([]*big.Int{first, number(c)})
				if n, e := sum.Dot([]int{a, c}, []int{b, 1}); n != want || e != wantErr {
					t.Error(a, b, c, n, e)
				}
			}
		}
	}
}

// S2: the first sum that differs says which cost is less, whatever stands behind it.
func TestCompare(t *testing.T) {
	for i := range api.MaxTiers {
		a := api.Cost{3, -1, 4, -1, 5}
		b := a
		if n := sum.Compare(a, b); n != 0 {
			t.Error(i, n)
		}
		b[i]++
		for j := i + 1; j < len(b); j++ {
			a[j], b[j] = math.MaxInt, math.MinInt
		}
		if n := sum.Compare(a, b); n != -1 {
			t.Error(i, n)
		}
		if n := sum.Compare(b, a); n != 1 {
			t.Error(i, n)
		}
	}
	// their difference would go round
	low, high := api.Cost{0, math.MinInt}, api.Cost{0, math.MaxInt}
	if n := sum.Compare(low, high); n != -1 {
		t.Error(n)
	}
	if n := sum.Compare(high, low); n != 1 {
		t.Error(n)
	}
}

// S2: each sum is added with its own, and one that does not fit is enough for an error.
func TestJoin(t *testing.T) {
	a, b := api.Cost{1, 20, -300, 0, math.MinInt}, api.Cost{2, -30, 400, 0, math.MaxInt}
	if c, e := sum.Join(a, b); c != (api.Cost{3, -10, 100, 0, -1}) || e != api.OK {
		t.Error(c, e)
	}
	if c, e := sum.Join(api.Cost{}, api.Cost{}); c != (api.Cost{}) || e != api.OK {
		t.Error(c, e)
	}
	for i := range api.MaxTiers {
		for _, edge := range []struct{ bound, step int }{{math.MaxInt, 1}, {math.MinInt, -1}} {
			a, b := api.Cost{1, 2, 3, 4, 5}, api.Cost{6, 7, 8, 9, 10}
			want := api.Cost{7, 9, 11, 13, 15}
			a[i], b[i], want[i] = edge.bound, 0, edge.bound
			if c, e := sum.Join(a, b); c != want || e != api.OK {
				t.Error(i, c, e)
			}
			b[i] = edge.step
			if c, e := sum.Join(a, b); c != (api.Cost{}) || e != api.ErrOver {
				t.Error(i, c, e)
			}
			if c, e := sum.Join(b, a); c != (api.Cost{}) || e != api.ErrOver {
				t.Error(i, c, e)
			}
		}
	}
}

// S2: Best is the first of the least ones.
func TestBest(t *testing.T) {
	a, b, c := api.Cost{0, 1}, api.Cost{0, 2}, api.Cost{-1, math.MaxInt}
	for i, x := range []struct {
		l []api.Cost
		n int
	}{
		{nil, -1},
		{[]api.Cost{}, -1},
		{[]api.Cost{{}}, 0},
		{[]api.Cost{{math.MaxInt, math.MaxInt, math.MaxInt, math.MaxInt, math.MaxInt}}, 0},
		{[]api.Cost{a, b}, 0},
		{[]api.Cost{b, a}, 1},
		{[]api.Cost{a, a, a}, 0},
		{[]api.Cost{b, a, b, a}, 1},
		{[]api.Cost{b, a, c, a, c}, 2},
		{[]api.Cost{c, b, a}, 0},
	} {
		if n := sum.Best(x.l); n != x.n {
			t.Error(i, n)
		}
	}
}

// costs are some of which each pair differs, rising.
func costs() []api.Cost {
	var l []api.Cost
	few := []int{math.MinInt, -1, 0, 1, math.MaxInt}
	for _, x := range few {
		for _, y := range few {
			l = append(l, api.Cost{x, 0, 0, 0, y})
		}
	}
	return l
}

// S3: Compare is an order: of two just one is less, and what is less than the less is less.
func TestCompareIsOrder(t *testing.T) {
	l := costs()
	for i, a := range l {
		for j, b := range l {
			n := sum.Compare(a, b)
			if n != -sum.Compare(b, a) || (n == 0) != (i == j) || (n < 0) != (i < j) {
				t.Error(a, b, n)
			}
			for _, c := range l {
				if n <= 0 && sum.Compare(b, c) <= 0 && sum.Compare(a, c) > 0 {
					t.Error(a, b, c)
				}
			}
		}
	}
}

// S3: Add and Mul do not ask which one comes first.
func TestEitherFirst(t *testing.T) {
	for _, a := range edges() {
		for _, b := range edges() {
			n, e := sum.Add(a, b)
			if m, f := sum.Add(b, a); n != m || e != f {
				t.Error("Add", a, b, n, e, m, f)
			}
			n, e = sum.Mul(a, b)
			if m, f := sum.Mul(b, a); n != m || e != f {
				t.Error("Mul", a, b, n, e, m, f)
			}
		}
	}
}

// orders calls f with l in each of its orders.
func orders(l []int, n int, f func([]int)) {
	if n == len(l) {
		f(l)
		return
	}
	for i := n; i < len(l); i++ {
		l[n], l[i] = l[i], l[n]
		orders(l, n+1, f)
		l[n], l[i] = l[i], l[n]
	}
}

// S3: Total does not ask for the order of numbers that have one sign.
func TestTotalInAnyOrder(t *testing.T) {
	for _, c := range []struct {
		l []int
		n int
		e api.Errno
	}{
		{[]int{1, 2, 3, 4, 5}, 15, api.OK},
		{[]int{-1, -2, -3, 0, -5}, -11, api.OK},
		{[]int{1 << 62, 1<<62 - 5, 1, 3, 0}, math.MaxInt, api.OK},
		{[]int{1 << 62, 1<<62 - 5, 1, 4, 0}, 0, api.ErrOver},
		{[]int{-1 << 62, -1<<62 + 5, -1, -4, 0}, math.MinInt, api.OK},
		{[]int{-1 << 62, -1<<62 + 5, -1, -5, 0}, 0, api.ErrOver},
	} {
		orders(c.l, 0, func(l []int) {
			if n, e := sum.Total(l); n != c.n || e != c.e {
				t.Error(l, n, e)
			}
		})
	}
}

// P3, P4: lists are only read, none behind their length, and the same call answers the same.
func TestListsAreOnlyRead(t *testing.T) {
	a, b := []int{1, 2, 3, math.MaxInt}, []int{4, 5, 6, math.MaxInt}
	l := []api.Cost{{2}, {1}, {0}}
	for range 2 {
		if n, e := sum.Total(a[:3]); n != 6 || e != api.OK {
			t.Error(n, e)
		}
		if n, e := sum.Dot(a[:3], b[:3]); n != 32 || e != api.OK {
			t.Error(n, e)
		}
		if n, e := sum.Dot(a, b); n != 0 || e != api.ErrOver {
			t.Error(n, e)
		}
		if n := sum.Best(l[:2]); n != 1 {
			t.Error(n)
		}
	}
	if !slices.Equal(a, []int{1, 2, 3, math.MaxInt}) || !slices.Equal(b, []int{4, 5, 6, math.MaxInt}) {
		t.Error(a, b)
	}
	if !slices.Equal(l, []api.Cost{{2}, {1}, {0}}) {
		t.Error(l)
	}
}
