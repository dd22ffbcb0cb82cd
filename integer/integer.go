// Package integer is layer 1: see shared/doc/01-integer.md.
package integer

import (
	"math"
	"slices"

	"sederunt/api"
)

// Of returns the integer with the value n.
func Of(n int64) api.Int {
	size := uint64(n)
	if n < 0 {
		// The unsigned negation is also right for the least int64.
		size = -size
	}
	return signed(n < 0, split(size))
}

// Valid reports whether an integer is valid.
func Valid(a api.Int) bool {
	n := len(a.Limbs)
	if n == 0 {
		return !a.Neg
	}
	return a.Limbs[n-1] != 0 && digits(a.Limbs) <= api.MaxDigits && !slices.ContainsFunc(a.Limbs, isTooWide)
}

// isTooWide reports whether a limb is not one of the base.
func isTooWide(limb uint32) bool { return limb >= base }

// bothValid reports whether both operands are valid.
func bothValid(a, b api.Int) bool { return Valid(a) && Valid(b) }

// signed returns the integer with a sign and an absolute value; zero is never negative.
func signed(neg bool, limbs []uint32) api.Int {
	return api.Int{Neg: neg && len(limbs) > 0, Limbs: limbs}
}

// bounded returns the integer with a sign and an absolute value if it does not have too many digits.
func bounded(neg bool, limbs []uint32) (api.Int, api.Errno) {
	if digits(limbs) > api.MaxDigits {
		return api.Int{}, api.ErrTooLarge
	}
	return signed(neg, limbs), api.OK
}

// Sign returns -1, 0 or 1; 0 if the argument is not valid.
func Sign(a api.Int) int {
	switch {
	case !Valid(a) || len(a.Limbs) == 0:
		return 0
	case a.Neg:
		return -1
	}
	return 1
}

// Cmp returns -1, 0 or 1 if a is less than, equal to or greater than b; 0 if an argument is not valid.
func Cmp(a, b api.Int) int {
	switch {
	case !bothValid(a, b):
		return 0
	case a.Neg && b.Neg:
		return compare(b.Limbs, a.Limbs)
	case a.Neg:
		return -1
	case b.Neg:
		return 1
	}
	return compare(a.Limbs, b.Limbs)
}

// Add returns the sum.
func Add(a, b api.Int) (api.Int, api.Errno) {
	if !bothValid(a, b) {
		return api.Int{}, api.ErrInvalid
	}
	return sum(a, b)
}

// Sub returns the difference.
func Sub(a, b api.Int) (api.Int, api.Errno) {
	// Checked before b is negated, because that would turn a negative zero into a valid one.
	if !bothValid(a, b) {
		return api.Int{}, api.ErrInvalid
	}
	return sum(a, signed(!b.Neg, b.Limbs))
}

// sum returns the sum of two valid integers.
func sum(a, b api.Int) (api.Int, api.Errno) {
	switch {
	case a.Neg == b.Neg:
		return bounded(a.Neg, plus(a.Limbs, b.Limbs))
	case compare(a.Limbs, b.Limbs) < 0:
		return bounded(b.Neg, minus(b.Limbs, a.Limbs))
	}
	return bounded(a.Neg, minus(a.Limbs, b.Limbs))
}

// Mul returns the product.
func Mul(a, b api.Int) (api.Int, api.Errno) {
	if !bothValid(a, b) {
		return api.Int{}, api.ErrInvalid
	}
	return bounded(a.Neg != b.Neg, times(a.Limbs, b.Limbs))
}

// Div returns the quotient, truncated toward zero, and the remainder, which has the sign of a.
func Div(a, b api.Int) (api.Int, api.Int, api.Errno) {
	if !bothValid(a, b) {
		return api.Int{}, api.Int{}, api.ErrInvalid
	}
	if len(b.Limbs) == 0 {
		return api.Int{}, api.Int{}, api.ErrZero
	}
	quotient, rest := divide(a.Limbs, b.Limbs)
	return signed(a.Neg != b.Neg, quotient), signed(a.Neg, rest), api.OK
}

// Gcd returns the greatest common divisor, which is not negative; 0 for two zeros.
func Gcd(a, b api.Int) (api.Int, api.Errno) {
	if !bothValid(a, b) {
		return api.Int{}, api.ErrInvalid
	}
	return signed(false, common(a.Limbs, b.Limbs)), api.OK
}

// Small returns the value of an integer as an int64.
func Small(a api.Int) (int64, api.Errno) {
	if !Valid(a) {
		return 0, api.ErrInvalid
	}
	if compare(a.Limbs, split(math.MaxUint64)) > 0 {
		return 0, api.ErrRange
	}
	size := join(a.Limbs)
	if a.Neg && size <= 1<<63 {
		return int64(-size), api.OK
	}
	if size > math.MaxInt64 {
		return 0, api.ErrRange
	}
	return int64(size), api.OK
}
