package ratio

import (
	"math/big"
	"math/rand"
	"strings"
	"testing"

	"sederunt/api"
	"sederunt/integer"
)

func TestTexts(t *testing.T) {
	for _, x := range []struct {
		text string
		want api.Ratio
	}{
		{"0", raw(0, 1)}, {"1", raw(1, 1)}, {"-1", raw(-1, 1)}, {"-3/2", raw(-3, 2)}, {"1/2", raw(1, 2)}, {"7/1000000000", raw(7, 1000000000)}, {"-1000000007/10", raw(-1000000007, 10)},
		{"-" + nines + "/" + power(299), api.Ratio{Num: number(t, "-"+nines), Den: number(t, power(299))}},
	} {
		if r, e := Parse(x.text); e != api.OK || !same(r, x.want) {
			t.Errorf("P2.1: Parse(%q): got %v, %v", x.text, r, e)
		}
		if s, e := Format(x.want); e != api.OK || s != x.text {
			t.Errorf("P2.1: Format(%v): got %q, %v", x.want, s, e)
		}
	}
	if s, e := Format(api.Ratio{Num: api.Int{Limbs: []uint32{}}, Den: integer.Of(1)}); e != api.OK || s != "0" {
		t.Errorf("P2.1: Format of zero with empty limbs: got %q, %v", s, e)
	}
	for _, s := range []string{
		"", "-", "/", "-/", "1/", "/1", "/2", "2/4", "1/1", "-1/1", "-0", "0/1", "0/2", "-0/1", "-0/2", "3/3", "6/2", "1/0", "0/0", "1/-2", "-1/-2", "1/+2", "+1/2",
		"01/2", "1/02", "1/2/3", "1/2/", "1//2", "//", "1/2 ", " 1/2", "1 /2", "1/ 2", "1.5", "0.5", "1e3", "1:2", "1\\2", "a", "1/a", "a/2", "1/2a", "½", "1∕2", "1/٢", "1/2\x00", "\xff/2",
		nines + "0", "1/" + nines + "0", nines + "0/" + nines + "1", nines + "/" + nines, "1/" + strings.Repeat("0", 300), strings.Repeat("9", 100000), strings.Repeat("/", 100000), "1/" + strings.Repeat("9", 100000),
	} {
		if r, e := Parse(s); e != api.ErrSyntax || !isNothing(r) {
			t.Errorf("P2.1: Parse(%.20q): got %v, %v", s, r, e)
		}
	}
}

// TestAccepted tries all short strings over the bytes that matter: Parse accepts those that are the text of a valid fraction, and no others.
func TestAccepted(t *testing.T) {
	// A text of four bytes has at most two digits behind the /.
	right := map[string]bool{}
	for den := int64(1); den < 100; den++ {
		for num := int64(-999); num <= 9999; num++ {
			if r := big.NewRat(num, den); r.Denom().Int64() == den {
				right[r.RatString()] = true
			}
		}
	}
	words := []string{""}
	for i := 0; i < len(words); i++ {
		if len(words[i]) < 4 {
			for _, c := range "/-+0124 a" {
				words = append(words, words[i]+string(c))
			}
		}
	}
	accepted := 0
	for _, s := range words {
		r, e := Parse(s)
		if right[s] != (e == api.OK) || e != api.OK && (e != api.ErrSyntax || !isNothing(r)) {
			t.Fatalf("P2.1: Parse(%q): got %v, %v", s, r, e)
		}
		if e != api.OK {
			continue
		}
		accepted++
		if text, e := Format(r); e != api.OK || text != s {
			t.Fatalf("P2.2: Parse accepts %q, but its text is %q, %v", s, text, e)
		}
	}
	if accepted < 100 {
		t.Errorf("P2.2: only %d texts were accepted", accepted)
	}
}

// TestTextsLeadBack formats and parses fractions of all sizes.
func TestTextsLeadBack(t *testing.T) {
	r := rand.New(rand.NewSource(3))
	for range 2000 {
		a := random(t, r, []int{1, 3, 20, 300}[r.Intn(4)])
		text, e := Format(a)
		back, f := Parse(text)
		if e != api.OK || f != api.OK || !same(a, back) || text != rat(a).RatString() {
			t.Fatalf("P2.2: %v has the text %q (%v), which leads to %v (%v)", a, text, e, back, f)
		}
	}
}

func TestDecimal(t *testing.T) {
	for _, x := range []struct {
		text   string
		digits int
		want   string
	}{
		{"-2/3", 3, "-0.666"}, {"2/3", 3, "0.666"}, {"-1/1000", 2, "0.00"}, {"-1/1000", 3, "-0.001"}, {"-1/1000", 0, "0"}, {"-999/1000", 0, "0"}, {"-1", 0, "-1"},
		{"0", 0, "0"}, {"0", 1, "0.0"}, {"0", 20, "0.00000000000000000000"}, {"5", 0, "5"}, {"5", 2, "5.00"}, {"-10", 1, "-10.0"}, {"100", 1, "100.0"},
		{"1/2", 0, "0"}, {"1/2", 1, "0.5"}, {"-3/2", 1, "-1.5"}, {"-3/2", 0, "-1"}, {"1999/1000", 2, "1.99"}, {"-1999/1000", 2, "-1.99"}, {"1/3", 20, "0.33333333333333333333"}, {"-200/3", 20, "-66.66666666666666666666"},
		{"1/100", 1, "0.0"}, {"1/100", 2, "0.01"}, {"-1/100000000000000000000", 20, "-0.00000000000000000001"}, {"-1/100000000000000000001", 20, "0.00000000000000000000"},
		{power(280), 19, power(280) + "." + strings.Repeat("0", 19)}, {power(279), 20, power(279) + "." + strings.Repeat("0", 20)}, {"-" + nines, 0, "-" + nines},
		{strings.Repeat("9", 280), 20, strings.Repeat("9", 280) + "." + strings.Repeat("0", 20)}, {"1/" + nines, 20, "0.00000000000000000000"},
		{"-123456789012345678901234567890/11", 5, "-11223344455667788991021324353.63636"}, {"1000000000000/1000000007", 9, "999.999993000"},
	} {
		if s, e := Decimal(parse(t, x.text), x.digits); e != api.OK || s != x.want {
			t.Errorf("P2.1: Decimal(%.30s, %d): got %q, %v", x.text, x.digits, s, e)
		}
	}
	for _, x := range []struct {
		text   string
		digits int
		want   api.Errno
	}{
		{"1/2", -1, api.ErrRange}, {"1/2", 21, api.ErrRange}, {"1/2", -1 << 63, api.ErrRange}, {"1/2", 1<<63 - 1, api.ErrRange}, {"0", 21, api.ErrRange},
		{nines, 21, api.ErrRange}, {nines, -1, api.ErrRange},
		{nines, 1, api.ErrTooLarge}, {"-" + nines, 20, api.ErrTooLarge}, {power(280), 20, api.ErrTooLarge}, {nines + "/" + power(299), 1, api.ErrTooLarge}, {strings.Repeat("9", 281), 20, api.ErrTooLarge},
	} {
		if s, e := Decimal(parse(t, x.text), x.digits); e != x.want || s != "" {
			t.Errorf("P2.1: Decimal(%.30s, %d): got %q, %v", x.text, x.digits, s, e)
		}
	}
}

// TestDecimalAgainstBig compares truncated values with those of math/big.
func TestDecimalAgainstBig(t *testing.T) {
	r := rand.New(rand.NewSource(4))
	for range 5000 {
		a, digits := random(t, r, []int{1, 3, 20, 280, 300}[r.Intn(5)]), r.Intn(21)
		got, e := Decimal(a, digits)
		scaled := new(big.Int).Mul(rat(a).Num(), new(big.Int).Exp(big.NewInt(10), big.NewInt(int64(digits)), nil))
		if isLong(scaled) {
			if e != api.ErrTooLarge || got != "" {
				t.Fatalf("P2.1: Decimal(%v, %d): got %q, %v", a, digits, got, e)
			}
			continue
		}
		truncated := new(big.Int).Quo(scaled, rat(a).Denom())
		shape := new(big.Rat).SetFrac(truncated, new(big.Int).Exp(big.NewInt(10), big.NewInt(int64(digits)), nil))
		if e != api.OK || got != shape.FloatString(digits) {
			t.Fatalf("P2.1: Decimal(%v, %d): got %q, %v; want %q", a, digits, got, e, shape.FloatString(digits))
		}
	}
}
