package integer

import (
	"slices"
	"strconv"
	"strings"

	"sederunt/api"
)

// Format returns the decimal digits of an integer, behind - if it is negative.
func Format(a api.Int) (string, api.Errno) {
	if !Valid(a) {
		return "", api.ErrInvalid
	}
	if len(a.Limbs) == 0 {
		return "0", api.OK
	}
	var text strings.Builder
	if a.Neg {
		text.WriteByte('-')
	}
	for i, limb := range slices.Backward(a.Limbs) {
		block := strconv.FormatUint(uint64(limb), 10)
		if i < len(a.Limbs)-1 {
			text.WriteString(strings.Repeat("0", perLimb-len(block)))
		}
		text.WriteString(block)
	}
	return text.String(), api.OK
}

// Parse returns the valid integer whose text is s.
func Parse(s string) (api.Int, api.Errno) {
	if s == "0" {
		return api.Int{}, api.OK
	}
	number, neg := strings.CutPrefix(s, "-")
	if !isNatural(number) {
		return api.Int{}, api.ErrSyntax
	}
	return signed(neg, blocks(number)), api.OK
}

// isNatural reports whether s consists of the digits of a positive integer that is not too large.
func isNatural(s string) bool {
	if s == "" || s[0] == '0' || len(s) > api.MaxDigits {
		return false
	}
	for i := range len(s) {
		if s[i] < '0' || s[i] > '9' {
			return false
		}
	}
	return true
}

// blocks returns the limbs of a text of digits.
func blocks(s string) []uint32 {
	var limbs []uint32
	for end := len(s); end > 0; end -= perLimb {
		limb := uint32(0)
		for _, digit := range []byte(s[max(0, end-perLimb):end]) {
			limb = limb*10 + uint32(digit-'0')
		}
		limbs = append(limbs, limb)
	}
	return limbs
}
