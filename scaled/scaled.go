// Package scaled is layer 1: dimensions: see shared/doc/01-scaled.md.
package scaled

import (
	"compositor/api"
)

// Check tells whether a number is a dimension.
func Check(n int) bool { return -api.MaxDim <= n && n <= api.MaxDim }

// Add is the sum of two dimensions, if that is one.
func Add(a, b int) (int, api.Errno) {
	return ofTwo(a, b, func() int { return a + b })
}

// Sub is the difference of two dimensions, if that is one.
func Sub(a, b int) (int, api.Errno) {
	return ofTwo(a, b, func() int { return a - b })
}

// Times is the product of two dimensions, if that is one.
func Times(a, k int) (int, api.Errno) {
	return ofTwo(a, k, func() int { return a * k })
}

// Sum is that of all, added one behind the other, so that no sum on the way may be too great, either.
func Sum(l ...int) (int, api.Errno) {
	sum := 0
	for _, n := range l {
		next, e := Add(sum, n)
		if e != api.OK {
			return 0, e
		}
		sum = next
	}
	return sum, api.OK
}

// ofTwo is what is made of two dimensions. It is made only once both are known to be dimensions: of greater numbers it could wrap round to one that looks like a dimension.
func ofTwo(a, b int, made func() int) (int, api.Errno) {
	if !Check(a) || !Check(b) {
		return 0, api.ErrDim
	}
	n := made()
	if !Check(n) {
		return 0, api.ErrDim
	}
	return n, api.OK
}
