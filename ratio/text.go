package ratio

import (
	"strings"

	"sederunt/api"
	"sederunt/integer"
)

const maxDecimals = 20 // digits behind a decimal point

// Format returns the text of a fraction: its numerator, and / and its denominator unless that is 1.
func Format(r api.Ratio) (string, api.Errno) {
	if !Valid(r) {
		return "", api.ErrInvalid
	}
	num, _ := integer.Format(r.Num)
	if isOne(r.Den) {
		return num, api.OK
	}
	den, _ := integer.Format(r.Den)
	return num + "/" + den, api.OK
}

// Parse returns the valid fraction with a text.
func Parse(s string) (api.Ratio, api.Errno) {
	left, right, found := strings.Cut(s, "/")
	if !found {
		right = "1"
	}
	num, e := integer.Parse(left)
	if e != api.OK {
		return api.Ratio{}, e
	}
	den, e := integer.Parse(right)
	if e != api.OK {
		return api.Ratio{}, e
	}
	r := api.Ratio{Num: num, Den: den}
	// This refuses also what is valid, but not the text of its value: 1/1.
	if text, e := Format(r); e != api.OK || text != s {
		return api.Ratio{}, api.ErrSyntax
	}
	return r, api.OK
}

// Decimal returns the value, truncated toward zero to some digits behind the decimal point.
func Decimal(r api.Ratio, digits int) (string, api.Errno) {
	if !Valid(r) {
		return "", api.ErrInvalid
	}
	if digits < 0 || digits > maxDecimals {
		return "", api.ErrRange
	}
	// A text, because an int64 has not enough digits for the greatest power.
	power, _ := integer.Parse("1" + strings.Repeat("0", digits))
	scaled, e := integer.Mul(r.Num, power)
	if e != api.OK {
		return "", e
	}
	quotient, _, _ := integer.Div(scaled, r.Den)
	text, _ := integer.Format(quotient)
	return pointed(text, digits), api.OK
}

// pointed returns the text of an integer with a point in front of its last digits, and a 0 where the point has no digit in front of it.
func pointed(text string, digits int) string {
	if digits == 0 {
		return text
	}
	number, negative := strings.CutPrefix(text, "-")
	number = strings.Repeat("0", max(0, digits+1-len(number))) + number
	cut := len(number) - digits
	decimal := number[:cut] + "." + number[cut:]
	if negative {
		return "-" + decimal
	}
	return decimal
}
