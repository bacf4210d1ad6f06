// Package sum: sums that do not go round: layer 1: see shared/doc/01-sum.md.
package sum

import (
	"cmp"
	"math"

	"keelson/api"
)

func Add(a, b int) (int, api.Errno) {
	return within(func() int { return add(a, b) })
}

func Mul(a, b int) (int, api.Errno) {
	return within(func() int { return mul(a, b) })
}

// Total adds numbers one by one.
func Total(l []int) (int, api.Errno) {
	return within(func() int {
		n := 0
		for _, x := range l {
			n = add(n, x)
		}
		return n
	})
}

// Dot adds products.
func Dot(a, b []int) (int, api.Errno) {
	if len(a) != len(b) {
		return 0, api.ErrArg
	}
	return within(func() int {
		n := 0
		for i, x := range a {
			n = add(n, mul(x, b[i]))
		}
		return n
	})
}

// Compare is the order of costs.
func Compare(a, b api.Cost) int {
	for i, x := range a {
		if c := cmp.Compare(x, b[i]); c != 0 {
			return c
		}
	}
	return 0
}

func Join(a, b api.Cost) (api.Cost, api.Errno) {
	return within(func() api.Cost {
		var c api.Cost
		for i, x := range a {
			c[i] = add(x, b[i])
		}
		return c
	})
}

// Best is the place of the least cost.
func Best(l []api.Cost) int {
	best := -1
	for i, c := range l {
		if best < 0 || Compare(c, l[best]) < 0 {
			best = i
		}
	}
	return best
}

// within spares the steps of a sum from handing an error on: what does not
// fit panics where it is found, and becomes the call's error here.
func within[T any](f func() T) (v T, err api.Errno) {
	defer func() {
		switch r := recover().(type) {
		case nil:
		case api.Errno:
			err = r
		default: // a fault of the program must not pass for a number too great
			panic(r)
		}
	}()
	return f(), api.OK
}

func add(a, b int) int {
	n := a + b
	if (n < a) != (b < 0) {
		panic(api.ErrOver)
	}
	return n
}

func mul(a, b int) int {
	n := a * b
	// Dividing back would miss -1 times -2^63: that quotient goes round too.
	if a == -1 && b == math.MinInt || a != 0 && n/a != b {
		panic(api.ErrOver)
	}
	return n
}
