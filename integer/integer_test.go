package integer

import (
	"math"
	"math/big"
	"math/rand"
	"slices"
	"strings"
	"testing"

	"sederunt/api"
)

var nines = strings.Repeat("9", api.MaxDigits)

// parse returns the integer with a text.
func parse(t *testing.T, s string) api.Int {
	t.Helper()
	a, e := Parse(s)
	if e != api.OK {
		t.Fatalf("P1.1: Parse(%q): %v", s, e)
	}
	return a
}

// isZero reports whether a result is the zero value.
func isZero(a api.Int) bool { return !a.Neg && len(a.Limbs) == 0 }

// same reports whether two integers have the same fields.
func same(a, b api.Int) bool { return a.Neg == b.Neg && slices.Equal(a.Limbs, b.Limbs) }

// invalid returns integers that break each of the conditions of validity.
func invalid() []api.Int {
	return []api.Int{
		{Neg: true},
		{Neg: true, Limbs: []uint32{}},
		{Limbs: []uint32{0}},
		{Neg: true, Limbs: []uint32{0}},
		{Limbs: []uint32{1, 0}},
		{Limbs: []uint32{1000000000}},
		{Limbs: []uint32{1000000000, 1}},
		{Limbs: []uint32{1, math.MaxUint32, 1}},
		{Limbs: append(make([]uint32, 33), 1000)},
		{Limbs: append(make([]uint32, 34), 1)},
		{Limbs: append(make([]uint32, 1000), 1)},
		{Limbs: make([]uint32, 1000)},
	}
}

// bigOf returns the value of an integer as one of math/big, from its limbs.
func bigOf(a api.Int) *big.Int {
	n := new(big.Int)
	for _, limb := range slices.Backward(a.Limbs) {
		n.Mul(n, big.NewInt(1000000000)).Add(n, big.NewInt(int64(limb)))
	}
	if a.Neg {
		n.Neg(n)
	}
	return n
}

// check compares a result with the right value, which may be too large.
func check(t *testing.T, name string, a, b, got api.Int, e api.Errno, want *big.Int) {
	t.Helper()
	if len(new(big.Int).Abs(want).String()) > api.MaxDigits {
		if e != api.ErrTooLarge || !isZero(got) {
			t.Fatalf("P1.1: %s(%v, %v): got %v, %v for a result that is too large", name, a, b, got, e)
		}
		return
	}
	if e != api.OK || !Valid(got) || bigOf(got).Cmp(want) != 0 {
		t.Fatalf("P1.1: %s(%v, %v): got %v, %v; want %v", name, a, b, got, e, want)
	}
}

func TestOf(t *testing.T) {
	for _, x := range []struct {
		n    int64
		want api.Int
	}{
		{0, api.Int{}},
		{1, api.Int{Limbs: []uint32{1}}},
		{-1, api.Int{Neg: true, Limbs: []uint32{1}}},
		{999999999, api.Int{Limbs: []uint32{999999999}}},
		{1000000000, api.Int{Limbs: []uint32{0, 1}}},
		{-1000000007, api.Int{Neg: true, Limbs: []uint32{7, 1}}},
		{1000000000000000000, api.Int{Limbs: []uint32{0, 0, 1}}},
		{math.MaxInt64, api.Int{Limbs: []uint32{854775807, 223372036, 9}}},
		{math.MinInt64, api.Int{Neg: true, Limbs: []uint32{854775808, 223372036, 9}}},
	} {
		if a := Of(x.n); !same(a, x.want) || !Valid(a) {
			t.Errorf("P1.1: Of(%d): got %v", x.n, a)
		}
	}
}

func TestValid(t *testing.T) {
	for i, a := range invalid() {
		if Valid(a) {
			t.Errorf("P1.1: Valid, row %d: %v is not valid", i, a)
		}
	}
	most := api.Int{Neg: true, Limbs: slices.Repeat([]uint32{999999999}, 34)}
	most.Limbs[33] = 999
	for i, a := range []api.Int{{}, {Limbs: []uint32{}}, {Limbs: []uint32{0, 1}}, {Neg: true, Limbs: []uint32{999999999}}, {Limbs: append(make([]uint32, 33), 100)}, most} {
		if !Valid(a) {
			t.Errorf("P1.1: Valid, row %d: %v is valid", i, a)
		}
	}
}

func TestInvalidArguments(t *testing.T) {
	for i, bad := range invalid() {
		for j, b := range []api.Int{{}, Of(5), Of(-5), bad, parse(t, nines)} {
			for k, pair := range [][2]api.Int{{bad, b}, {b, bad}} {
				if Cmp(pair[0], pair[1]) != 0 {
					t.Errorf("P1.1: Cmp, row %d, %d, %d: not 0", i, j, k)
				}
				for name, f := range map[string]func(a, b api.Int) (api.Int, api.Errno){"Add": Add, "Sub": Sub, "Mul": Mul, "Gcd": Gcd} {
					if r, e := f(pair[0], pair[1]); e != api.ErrInvalid || !isZero(r) {
						t.Errorf("P1: %s, row %d, %d, %d: got %v, %v", name, i, j, k, r, e)
					}
				}
				// A divisor of zero is examined after validity.
				if q, r, e := Div(pair[0], pair[1]); e != api.ErrInvalid || !isZero(q) || !isZero(r) {
					t.Errorf("P1: Div, row %d, %d, %d: got %v, %v, %v", i, j, k, q, r, e)
				}
			}
		}
		if Sign(bad) != 0 {
			t.Errorf("P1.1: Sign, row %d: not 0", i)
		}
		if n, e := Small(bad); e != api.ErrInvalid || n != 0 {
			t.Errorf("P1: Small, row %d: got %d, %v", i, n, e)
		}
		if s, e := Format(bad); e != api.ErrInvalid || s != "" {
			t.Errorf("P1: Format, row %d: got %q, %v", i, s, e)
		}
	}
}

func TestSignAndCmp(t *testing.T) {
	ordered := []string{"-" + nines, "-1000000000000000001", "-1000000000000000000", "-1000000001", "-1000000000", "-999999999", "-2", "-1", "0", "1", "2", "999999999", "1000000000", "1000000001", "1999999999", "2000000000", "1000000000000000000", nines}
	for i, s := range ordered {
		a := parse(t, s)
		if got := Sign(a); got != sign(i-8) {
			t.Errorf("P1.1: Sign(%s): got %d", s, got)
		}
		for j, r := range ordered {
			if got := Cmp(a, parse(t, r)); got != sign(i-j) {
				t.Errorf("P1.1: Cmp(%s, %s): got %d", s, r, got)
			}
		}
	}
	if Sign(api.Int{Limbs: []uint32{}}) != 0 || Cmp(api.Int{}, api.Int{Limbs: []uint32{}}) != 0 {
		t.Error("P1.1: nil and empty limbs are equal")
	}
}

func sign(n int) int { return max(-1, min(1, n)) }

func TestDiv(t *testing.T) {
	for _, x := range []struct{ a, b, quotient, rest int64 }{
		{7, 2, 3, 1}, {-7, 2, -3, -1}, {7, -2, -3, 1}, {-7, -2, 3, -1},
		{6, 3, 2, 0}, {-6, 3, -2, 0}, {0, -3, 0, 0}, {2, -3, 0, 2}, {-2, 3, 0, -2}, {-2, -3, 0, -2},
		{1000000000, 1000000000, 1, 0}, {1000000000, 999999999, 1, 1}, {999999999999999999, -1000000000, -999999999, 999999999},
		{math.MinInt64, math.MaxInt64, -1, -1}, {math.MaxInt64, math.MinInt64, 0, math.MaxInt64},
	} {
		q, r, e := Div(Of(x.a), Of(x.b))
		if e != api.OK || !same(q, Of(x.quotient)) || !same(r, Of(x.rest)) {
			t.Errorf("P1.1: Div(%d, %d): got %v, %v, %v", x.a, x.b, q, r, e)
		}
	}
	for _, s := range []string{"0", "1", "-5", nines} {
		if q, r, e := Div(parse(t, s), api.Int{Limbs: []uint32{}}); e != api.ErrZero || !isZero(q) || !isZero(r) {
			t.Errorf("P1.1: Div(%s, 0): got %v, %v, %v", s, q, r, e)
		}
	}
}

func TestGcd(t *testing.T) {
	for _, x := range []struct{ a, b, want int64 }{
		{-12, 18, 6}, {12, -18, 6}, {-12, -18, 6}, {0, 0, 0}, {0, -5, 5}, {-5, 0, 5}, {1, 7, 1}, {17, 17, 17},
		{1000000000, 4000000000, 1000000000}, {math.MinInt64, 1 << 40, 1 << 40},
	} {
		if g, e := Gcd(Of(x.a), Of(x.b)); e != api.OK || !same(g, Of(x.want)) {
			t.Errorf("P1.1: Gcd(%d, %d): got %v, %v", x.a, x.b, g, e)
		}
	}
	least := Of(math.MinInt64)
	if g, e := Gcd(least, least); e != api.OK || bigOf(g).String() != "9223372036854775808" {
		t.Errorf("P1.1: Gcd of the least int64 with itself: got %v, %v", g, e)
	}
	if g, e := Gcd(parse(t, "-"+nines), api.Int{}); e != api.OK || bigOf(g).String() != nines {
		t.Errorf("P1.1: Gcd of 300 digits and 0: got %v, %v", g, e)
	}
}

func TestTooLarge(t *testing.T) {
	big, one := parse(t, nines), Of(1)
	less, small := parse(t, "-"+nines), Of(-1)
	if r, e := Add(big, one); e != api.ErrTooLarge || !isZero(r) {
		t.Errorf("P1.1: Add: got %v, %v", r, e)
	}
	if r, e := Add(less, small); e != api.ErrTooLarge || !isZero(r) {
		t.Errorf("P1.1: Add: got %v, %v", r, e)
	}
	if r, e := Sub(big, small); e != api.ErrTooLarge || !isZero(r) {
		t.Errorf("P1.1: Sub: got %v, %v", r, e)
	}
	if r, e := Sub(less, one); e != api.ErrTooLarge || !isZero(r) {
		t.Errorf("P1.1: Sub: got %v, %v", r, e)
	}
	if r, e := Mul(big, less); e != api.ErrTooLarge || !isZero(r) {
		t.Errorf("P1.1: Mul: got %v, %v", r, e)
	}
	ten := parse(t, "1"+strings.Repeat("0", 150))
	if r, e := Mul(ten, ten); e != api.ErrTooLarge || !isZero(r) {
		t.Errorf("P1.1: Mul with 301 digits: got %v, %v", r, e)
	}
	if r, e := Mul(ten, parse(t, "-"+strings.Repeat("9", 150))); e != api.OK || bigOf(r).String() != "-"+strings.Repeat("9", 150)+strings.Repeat("0", 150) {
		t.Errorf("P1.1: Mul with 300 digits: got %v, %v", r, e)
	}
	if r, e := Add(big, api.Int{}); e != api.OK || !same(r, big) {
		t.Errorf("P1.1: Add with 300 digits: got %v, %v", r, e)
	}
}

func TestSmall(t *testing.T) {
	for _, n := range []int64{0, 1, -1, 999999999, -1000000000, 1 << 62, math.MaxInt64, math.MinInt64, math.MinInt64 + 1} {
		if got, e := Small(Of(n)); e != api.OK || got != n {
			t.Errorf("P1.1: Small(%d): got %d, %v", n, got, e)
		}
	}
	for _, s := range []string{"9223372036854775808", "-9223372036854775809", "18446744073709551615", "-18446744073709551615", "18446744073709551616", "-18446744073709551617", "10000000000000000000", "999999999999999999999999999", "1000000000000000000000000000", "-" + nines} {
		if got, e := Small(parse(t, s)); e != api.ErrRange || got != 0 {
			t.Errorf("P1.1: Small(%s): got %d, %v", s, got, e)
		}
	}
}

func TestTexts(t *testing.T) {
	for _, s := range []string{"0", "1", "-1", "10", "999999999", "1000000000", "-1000000000", "1000000007", "12000000003000000045", "-9223372036854775808", nines, "-" + nines, "1" + strings.Repeat("0", 299)} {
		a, e := Parse(s)
		if want, _ := new(big.Int).SetString(s, 10); e != api.OK || !Valid(a) || bigOf(a).Cmp(want) != 0 {
			t.Errorf("P1.1: Parse(%q): got %v, %v", s, a, e)
		}
		if text, e := Format(a); e != api.OK || text != s {
			t.Errorf("P1.2: Format of the integer with the text %q: got %q, %v", s, text, e)
		}
	}
	for _, s := range []string{"", "-", "--1", "-0", "-00", "00", "007", "-01", "+1", "+0", " 1", "1 ", "1\n", "1_0", "1a", "0x1", "1.0", "1e3", "1-", "1-2", "/", ":", "1:", "9/", "\x00", "1\x00", "١", "١٢", "１", "\xff", nines + "0", "-" + nines + "9", "0" + nines, strings.Repeat("0", 300), strings.Repeat("9", 100000)} {
		if a, e := Parse(s); e != api.ErrSyntax || !isZero(a) {
			t.Errorf("P1.1: Parse(%.20q): got %v, %v", s, a, e)
		}
	}
	if s, e := Format(api.Int{Limbs: []uint32{}}); e != api.OK || s != "0" {
		t.Errorf("P1.1: Format of zero with empty limbs: got %q, %v", s, e)
	}
}

// TestAccepted tries all short strings over the bytes that matter: what Parse accepts is the text of its result.
func TestAccepted(t *testing.T) {
	words := []string{""}
	for i := 0; i < len(words); i++ {
		if len(words[i]) < 5 {
			for _, c := range "-+019 a" {
				words = append(words, words[i]+string(c))
			}
		}
	}
	for _, s := range words {
		number := strings.TrimPrefix(s, "-")
		right := s == "0" || number != "" && number[0] != '0' && strings.Trim(number, "019") == ""
		a, e := Parse(s)
		if right != (e == api.OK) {
			t.Fatalf("P1.1: Parse(%q): got %v, %v", s, a, e)
		}
		if text, f := Format(a); right && (f != api.OK || text != s) {
			t.Fatalf("P1.2: Parse accepts %q, but its text is %q, %v", s, text, f)
		}
	}
}

// random returns an integer with up to n limbs; many of them are the ones that lead to carries and wrong guesses.
func random(r *rand.Rand, n int) api.Int {
	special := []uint32{0, 0, 1, 2, 499999999, 500000000, 500000001, 999999998, 999999999, 999999999}
	limbs := make([]uint32, r.Intn(n+1))
	plain := r.Intn(3) == 0
	for i := range limbs {
		limbs[i] = special[r.Intn(len(special))]
		if plain || r.Intn(4) == 0 {
			limbs[i] = uint32(r.Intn(1000000000))
		}
	}
	if len(limbs) == 34 {
		limbs[33] %= 1000
	}
	for len(limbs) > 0 && limbs[len(limbs)-1] == 0 {
		limbs = limbs[:len(limbs)-1]
	}
	return api.Int{Neg: len(limbs) > 0 && r.Intn(2) == 0, Limbs: limbs}
}

// TestAgainstBig compares all operations with those of math/big, on integers of all sizes.
func TestAgainstBig(t *testing.T) {
	r := rand.New(rand.NewSource(1))
	sizes := []int{1, 2, 3, 4, 7, 17, 34}
	for range 60000 {
		a, b := random(r, sizes[r.Intn(len(sizes))]), random(r, sizes[r.Intn(len(sizes))])
		x, y := bigOf(a), bigOf(b)
		first, second := slices.Clone(a.Limbs), slices.Clone(b.Limbs)
		s, e := Add(a, b)
		check(t, "Add", a, b, s, e, new(big.Int).Add(x, y))
		d, e := Sub(a, b)
		check(t, "Sub", a, b, d, e, new(big.Int).Sub(x, y))
		p, e := Mul(a, b)
		check(t, "Mul", a, b, p, e, new(big.Int).Mul(x, y))
		g, e := Gcd(a, b)
		check(t, "Gcd", a, b, g, e, new(big.Int).GCD(nil, nil, new(big.Int).Abs(x), new(big.Int).Abs(y)))
		if y.Sign() != 0 {
			quotient, rest := new(big.Int).QuoRem(x, y, new(big.Int))
			q, m, e := Div(a, b)
			check(t, "Div", a, b, q, e, quotient)
			check(t, "Div (remainder)", a, b, m, e, rest)
		}
		if Cmp(a, b) != x.Cmp(y) || Sign(a) != x.Sign() {
			t.Fatalf("P1.1: Cmp or Sign of %v, %v: got %d, %d", a, b, Cmp(a, b), Sign(a))
		}
		text, e := Format(a)
		back, f := Parse(text)
		if e != api.OK || f != api.OK || text != x.String() || !same(a, back) {
			t.Fatalf("P1.2: %v has the text %q (%v), which leads to %v (%v)", a, text, e, back, f)
		}
		if n, e := Small(a); x.IsInt64() != (e == api.OK) || e == api.OK && n != x.Int64() {
			t.Fatalf("P1.1: Small(%v): got %d, %v", a, n, e)
		}
		if !slices.Equal(a.Limbs, first) || !slices.Equal(b.Limbs, second) {
			t.Fatalf("Rules: an operation changed its arguments %v, %v to %v, %v", first, second, a, b)
		}
	}
}

// TestLongDivision builds dividends whose guessed limbs are too great, from quotients and divisors with extreme limbs.
func TestLongDivision(t *testing.T) {
	limbs := []uint32{0, 1, 499999999, 500000000, 999999998, 999999999}
	var divisors, quotients []api.Int
	for _, low := range limbs {
		for _, middle := range limbs {
			for _, top := range limbs[1:] {
				divisors = append(divisors, api.Int{Limbs: []uint32{low, middle, top}})
				quotients = append(quotients, api.Int{Limbs: []uint32{low, middle, top}})
			}
		}
	}
	for _, b := range divisors {
		rest, _ := Sub(b, Of(1))
		for _, q := range quotients {
			product, _ := Mul(b, q)
			a, _ := Add(product, rest)
			got, over, e := Div(a, b)
			if e != api.OK || !same(got, q) || !same(over, rest) {
				t.Fatalf("P1.1: Div(%v, %v): got %v, %v, %v", a, b, got, over, e)
			}
			got, over, e = Div(product, b)
			if e != api.OK || !same(got, q) || !isZero(over) {
				t.Fatalf("P1.1: Div(%v, %v): got %v, %v, %v", product, b, got, over, e)
			}
		}
	}
}

// TestGcdOfNeighbours goes through as many steps as the limit of digits allows.
func TestGcdOfNeighbours(t *testing.T) {
	a, b := Of(0), Of(1)
	for {
		next, e := Add(a, b)
		if e != api.OK {
			break
		}
		a, b = b, next
	}
	if g, e := Gcd(a, b); e != api.OK || !same(g, Of(1)) {
		t.Errorf("P1.1: Gcd of the greatest Fibonacci numbers: got %v, %v", g, e)
	}
}

// spoil overwrites the memory of a result, also that beyond its length.
func spoil(list ...api.Int) {
	for _, a := range list {
		all := a.Limbs[:cap(a.Limbs)]
		for i := range all {
			all[i] = 123
		}
	}
}

// TestMemory overwrites results: neither the arguments nor other results may notice it.
func TestMemory(t *testing.T) {
	texts := []string{"0", "1", "-6", "999999999", "1000000000000000007", "-123456789012345678901234567890", nines}
	for _, s := range texts {
		for _, r := range texts {
			a, b := parse(t, s), parse(t, r)
			for name, f := range map[string]func(a, b api.Int) (api.Int, api.Errno){"Add": Add, "Sub": Sub, "Mul": Mul, "Gcd": Gcd} {
				result, _ := f(a, b)
				spoil(result)
				if !same(a, parse(t, s)) || !same(b, parse(t, r)) {
					t.Fatalf("Rules: the result of %s(%s, %s) shares memory with an argument", name, s, r)
				}
			}
			quotient, rest, _ := Div(a, b)
			before := slices.Clone(quotient.Limbs)
			spoil(rest)
			if !slices.Equal(quotient.Limbs, before) {
				t.Fatalf("Rules: the results of Div(%s, %s) share memory", s, r)
			}
			spoil(quotient)
			if !same(a, parse(t, s)) || !same(b, parse(t, r)) {
				t.Fatalf("Rules: a result of Div(%s, %s) shares memory with an argument", s, r)
			}
		}
	}
	first := Of(math.MaxInt64)
	spoil(Of(math.MaxInt64))
	if !same(first, Of(math.MaxInt64)) {
		t.Error("Rules: two results of Of share memory")
	}
}
