// Package fix is layer 1: see shared/doc/01-fix.md.
package fix

import "gesso/api"

// places is how many binary places a number has: api.One is 1 shifted by them.
const places = 16

// mostTerms is how many numbers Add takes; so few can't wrap a sum round.
const mostTerms = 1024

// Right tells whether numbers may be.
func Right(l ...api.F) bool {
	for _, x := range l {
		if x < api.MinNum || x > api.MaxNum {
			return false
		}
	}
	return true
}

// Of is a whole number.
func Of(n int) (api.F, api.Errno) {
	// Held against the limits ahead of the product, which could wrap round into them.
	if n < api.MinNum/api.One || n > api.MaxNum/api.One {
		return 0, api.ErrOver
	}
	return api.F(n * api.One), api.OK
}

// Floor is the greatest whole number that is not above.
func Floor(x api.F) int {
	// A shift drops downwards, below 0 too, where a division would drop towards 0.
	return int(x >> places)
}

// Add is a sum.
func Add(l ...api.F) (api.F, api.Errno) {
	if len(l) > mostTerms || !Right(l...) {
		return 0, api.ErrArg
	}
	var sum api.F
	for _, x := range l {
		sum += x
	}
	return fit(sum)
}

// Neg is a number turned about.
func Neg(x api.F) (api.F, api.Errno) {
	if !Right(x) {
		return 0, api.ErrArg
	}
	return fit(-x)
}

// Mul is a product.
func Mul(a, b api.F) (api.F, api.Errno) {
	if !Right(a, b) {
		return 0, api.ErrArg
	}
	// At most 2^62 either way: the product can't wrap round.
	return fit(a * b >> places)
}

// Div is a quotient.
func Div(a, b api.F) (api.F, api.Errno) {
	if !Right(a, b) || b == 0 {
		return 0, api.ErrArg
	}
	return fit(floorDiv(a*api.One, b))
}

// fit is what came out, if it may be.
func fit(x api.F) (api.F, api.Errno) {
	if !Right(x) {
		return 0, api.ErrOver
	}
	return x, api.OK
}

// floorDiv is a by b, dropped downwards; Go's own division drops towards 0.
func floorDiv(a, b api.F) api.F {
	q, rest := a/b, a%b
	if rest != 0 && (rest < 0) != (b < 0) {
		q--
	}
	return q
}
