package integer

import (
	"cmp"
	"slices"
)

// The functions of this file work on absolute values: limbs without a zero at their end.
// Their results are new memory.

const (
	base     = 1000000000
	perLimb  = 9 // decimal digits of a limb
	wordSize = 2 // limbs that always fit a uint64
)

// split returns the limbs of a number.
func split(n uint64) []uint32 {
	var limbs []uint32
	for ; n > 0; n /= base {
		limbs = append(limbs, uint32(n%base))
	}
	return limbs
}

// join returns the number with limbs that fit it.
func join(limbs []uint32) uint64 {
	n := uint64(0)
	for _, limb := range slices.Backward(limbs) {
		n = n*base + uint64(limb)
	}
	return n
}

// trim cuts the zeros at the end of limbs.
func trim(limbs []uint32) []uint32 {
	n := len(limbs)
	for n > 0 && limbs[n-1] == 0 {
		n--
	}
	return limbs[:n]
}

// digits returns the number of decimal digits, 0 for zero.
func digits(limbs []uint32) int {
	if len(limbs) == 0 {
		return 0
	}
	n := perLimb * (len(limbs) - 1)
	for top := limbs[len(limbs)-1]; top > 0; top /= 10 {
		n++
	}
	return n
}

// compare returns -1, 0 or 1 if a is less than, equal to or greater than b.
func compare(a, b []uint32) int {
	if len(a) != len(b) {
		return cmp.Compare(len(a), len(b))
	}
	for i := len(a) - 1; i >= 0; i-- {
		if a[i] != b[i] {
			return cmp.Compare(a[i], b[i])
		}
	}
	return 0
}

// plus returns a + b.
func plus(a, b []uint32) []uint32 {
	if len(a) < len(b) {
		a, b = b, a
	}
	sum := make([]uint32, len(a)+1)
	carry := uint32(0)
	for i, limb := range a {
		limb += carry
		if i < len(b) {
			limb += b[i]
		}
		sum[i], carry = limb%base, limb/base
	}
	sum[len(a)] = carry
	return trim(sum)
}

// minus returns a - b for a that is not less than b.
func minus(a, b []uint32) []uint32 {
	rest := slices.Clone(a)
	borrow := uint32(0)
	for i := range rest {
		less := borrow
		if i < len(b) {
			less += b[i]
		}
		borrow = 0
		if rest[i] < less {
			rest[i] += base
			borrow = 1
		}
		rest[i] -= less
	}
	return trim(rest)
}

// times returns a b.
func times(a, b []uint32) []uint32 {
	product := make([]uint32, len(a)+len(b))
	for i, x := range a {
		carry := uint64(0)
		for j, y := range b {
			t := uint64(product[i+j]) + uint64(x)*uint64(y) + carry
			product[i+j], carry = uint32(t%base), t/base
		}
		product[i+len(b)] = uint32(carry)
	}
	return trim(product)
}

// scale returns a times a limb, in n limbs, where n is enough for the product.
func scale(a []uint32, limb uint32, n int) []uint32 {
	product := make([]uint32, n)
	carry := uint64(0)
	for i := range product {
		if i < len(a) {
			carry += uint64(a[i]) * uint64(limb)
		}
		product[i], carry = uint32(carry%base), carry/base
	}
	return product
}

// divide returns the quotient and the remainder of a by b, which is not zero.
func divide(a, b []uint32) (quotient, rest []uint32) {
	switch {
	case compare(a, b) < 0:
		return nil, slices.Clone(a)
	case len(b) == 1:
		return short(a, b[0])
	}
	return long(a, b)
}

// short divides by a single limb.
func short(a []uint32, limb uint32) (quotient, rest []uint32) {
	quotient = make([]uint32, len(a))
	carry := uint64(0)
	for i, x := range slices.Backward(a) {
		t := carry*base + uint64(x)
		quotient[i], carry = uint32(t/uint64(limb)), t%uint64(limb)
	}
	return trim(quotient), split(carry)
}

// long divides a by b, which is not greater and has two limbs or more: Knuth's algorithm D.
func long(a, b []uint32) (quotient, rest []uint32) {
	// With a divisor whose last limb is at least half of the base, a guess is at most one too great.
	factor := uint32(base / (uint64(b[len(b)-1]) + 1))
	rest = scale(a, factor, len(a)+1)
	b = scale(b, factor, len(b))
	quotient = make([]uint32, len(a)-len(b)+1)
	for i := len(quotient) - 1; i >= 0; i-- {
		window := rest[i : i+len(b)+1]
		limb := guess(window, b)
		if takeAway(window, b, limb) {
			limb--
			putBack(window, b)
		}
		quotient[i] = uint32(limb)
	}
	rest, _ = short(trim(rest), factor)
	return trim(quotient), rest
}

// guess returns the limb of a quotient that the last three limbs of window and the last two of b lead to: right, or one too great.
func guess(window, b []uint32) uint64 {
	n := len(b)
	first, second := uint64(b[n-1]), uint64(b[n-2])
	top := uint64(window[n])*base + uint64(window[n-1])
	limb, over := top/first, top%first
	for limb*second > over*base+uint64(window[n-2]) {
		limb--
		over += first
	}
	return limb
}

// takeAway subtracts limb times b from window, modulo a power of the base, and reports whether the true difference is negative.
func takeAway(window, b []uint32, limb uint64) bool {
	borrow := uint64(0)
	for i, x := range b {
		t := limb*uint64(x) + borrow
		low := uint32(t % base)
		borrow = t / base
		if window[i] < low {
			window[i] += base
			borrow++
		}
		window[i] -= low
	}
	last := len(b)
	negative := uint64(window[last]) < borrow
	if negative {
		window[last] += base
	}
	window[last] -= uint32(borrow)
	return negative
}

// putBack adds b to window, modulo a power of the base.
func putBack(window, b []uint32) {
	carry := uint32(0)
	for i, x := range b {
		t := window[i] + x + carry
		window[i], carry = t%base, t/base
	}
	window[len(b)] = (window[len(b)] + carry) % base
}

// common returns the greatest common divisor.
func common(a, b []uint32) []uint32 {
	a, b = slices.Clone(a), slices.Clone(b)
	for len(b) > 0 {
		if len(a) <= wordSize && len(b) <= wordSize {
			return split(commonWord(join(a), join(b)))
		}
		_, rest := divide(a, b)
		a, b = b, rest
	}
	return a
}

// commonWord returns the greatest common divisor of two words.
func commonWord(a, b uint64) uint64 {
	for b > 0 {
		a, b = b, a%b
	}
	return a
}
