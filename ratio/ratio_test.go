package ratio

import (
	"math"
	"math/big"
	"math/rand"
	"slices"
	"strings"
	"testing"

	"sederunt/api"
	"sederunt/integer"
)

// nines is the text of the greatest integer.
var nines = strings.Repeat("9", api.MaxDigits)

// power returns the text of a power of ten.
func power(n int) string { return "1" + strings.Repeat("0", n) }

// number returns the integer with a text.
func number(t *testing.T, s string) api.Int {
	t.Helper()
	a, e := integer.Parse(s)
	if e != api.OK {
		t.Fatalf("integer.Parse(%q): %v", s, e)
	}
	return a
}

// parse returns the fraction with a text.
func parse(t *testing.T, s string) api.Ratio {
	t.Helper()
	r, e := Parse(s)
	if e != api.OK {
		t.Fatalf("P2.1: Parse(%q): %v", s, e)
	}
	return r
}

// all returns the fractions with texts.
func all(t *testing.T, texts ...string) []api.Ratio {
	t.Helper()
	var list []api.Ratio
	for _, s := range texts {
		list = append(list, parse(t, s))
	}
	return list
}

// raw returns a fraction with two fields, valid or not.
func raw(num, den int64) api.Ratio {
	return api.Ratio{Num: integer.Of(num), Den: integer.Of(den)}
}

// sameInt reports whether two integers have the same fields.
func sameInt(a, b api.Int) bool { return a.Neg == b.Neg && slices.Equal(a.Limbs, b.Limbs) }

// same reports whether two fractions have the same fields.
func same(a, b api.Ratio) bool { return sameInt(a.Num, b.Num) && sameInt(a.Den, b.Den) }

// isNothing reports whether a result is the zero value.
func isNothing(r api.Ratio) bool { return same(r, api.Ratio{}) }

// is reports whether a result is the valid fraction with a text.
func is(r api.Ratio, e api.Errno, want string) bool {
	text, f := Format(r)
	return e == api.OK && f == api.OK && text == want
}

// clone returns a copy of a fraction that shares no memory with it.
func clone(r api.Ratio) api.Ratio {
	r.Num.Limbs, r.Den.Limbs = slices.Clone(r.Num.Limbs), slices.Clone(r.Den.Limbs)
	return r
}

// invalidInts returns integers that are not valid.
func invalidInts() []api.Int {
	return []api.Int{
		{Neg: true},
		{Limbs: []uint32{0}},
		{Limbs: []uint32{1, 0}},
		{Limbs: []uint32{1000000000}},
		{Neg: true, Limbs: []uint32{5, math.MaxUint32}},
		{Limbs: append(make([]uint32, 33), 1000)},
		{Limbs: append(make([]uint32, 1000), 1)},
	}
}

// invalid returns fractions that break each of the conditions of validity.
func invalid() []api.Ratio {
	list := []api.Ratio{
		{}, raw(1, 0), raw(-1, 0), raw(1, -1), raw(-1, -2), raw(0, -1), raw(0, 2), raw(0, -2),
		raw(2, 4), raw(-2, 4), raw(3, 3), raw(-7, 7), raw(6, 2), raw(1000000007*3, 1000000007*2),
	}
	for _, a := range invalidInts() {
		list = append(list, api.Ratio{Num: a, Den: integer.Of(1)}, api.Ratio{Num: integer.Of(1), Den: a}, api.Ratio{Num: a, Den: a})
	}
	return list
}

type binary = func(a, b api.Ratio) (api.Ratio, api.Errno)

// operations returns the functions of two fractions.
func operations() map[string]binary {
	dot := func(a, b api.Ratio) (api.Ratio, api.Errno) { return Dot([]api.Ratio{a}, []api.Ratio{b}) }
	return map[string]binary{"Add": Add, "Sub": Sub, "Mul": Mul, "Div": Div, "Dot": dot}
}

func TestMakeAndOf(t *testing.T) {
	for _, x := range []struct {
		num, den int64
		want     string
	}{
		{6, -4, "-3/2"}, {-6, 4, "-3/2"}, {-6, -4, "3/2"}, {6, 4, "3/2"}, {0, 5, "0"}, {0, -5, "0"}, {0, 1, "0"},
		{1, 1, "1"}, {-1, 1, "-1"}, {1, -1, "-1"}, {7, 7, "1"}, {7, -7, "-1"}, {12, 4, "3"}, {4, 12, "1/3"}, {1, 2, "1/2"},
		{1000000000, 10, "100000000"}, {10, 1000000000, "1/100000000"},
		{math.MinInt64, math.MinInt64, "1"}, {math.MinInt64, -1, "9223372036854775808"}, {1, math.MinInt64, "-1/9223372036854775808"},
		{math.MinInt64, math.MaxInt64, "-9223372036854775808/9223372036854775807"}, {math.MinInt64, 6, "-4611686018427387904/3"},
	} {
		if r, e := Of(x.num, x.den); !is(r, e, x.want) {
			t.Errorf("P2.1: Of(%d, %d): got %v, %v", x.num, x.den, r, e)
		}
		if r, e := Make(integer.Of(x.num), integer.Of(x.den)); !is(r, e, x.want) {
			t.Errorf("P2.1: Make(%d, %d): got %v, %v", x.num, x.den, r, e)
		}
	}
	if r, e := Of(6, -4); e != api.OK || !same(r, raw(-3, 2)) {
		t.Errorf("P2.1: Of(6, -4): got the fields %v, %v", r, e)
	}
	if r, e := Of(0, -4); e != api.OK || !same(r, raw(0, 1)) {
		t.Errorf("P2.1: Of(0, -4): got the fields %v, %v", r, e)
	}
	for _, n := range []int64{0, 1, -1, math.MinInt64} {
		if r, e := Of(n, 0); e != api.ErrZero || !isNothing(r) {
			t.Errorf("P2.1: Of(%d, 0): got %v, %v", n, r, e)
		}
		if r, e := Make(integer.Of(n), api.Int{Limbs: []uint32{}}); e != api.ErrZero || !isNothing(r) {
			t.Errorf("P2.1: Make(%d, 0): got %v, %v", n, r, e)
		}
	}
	for i, bad := range invalidInts() {
		for j, a := range []api.Int{integer.Of(0), integer.Of(-3), bad} {
			// A denominator of zero is examined after validity.
			for k, pair := range [][2]api.Int{{a, bad}, {bad, a}} {
				if r, e := Make(pair[0], pair[1]); e != api.ErrInvalid || !isNothing(r) {
					t.Errorf("P1: Make, row %d, %d, %d: got %v, %v", i, j, k, r, e)
				}
			}
		}
	}
	if r, e := Make(number(t, nines), number(t, "-"+nines)); !is(r, e, "-1") {
		t.Errorf("P2.1: Make with 300 digits: got %v, %v", r, e)
	}
	if r, e := Make(number(t, "-"+nines), number(t, power(299))); !is(r, e, "-"+nines+"/"+power(299)) {
		t.Errorf("P2.1: Make with 300 digits: got %v, %v", r, e)
	}
}

func TestValid(t *testing.T) {
	for i, r := range invalid() {
		if Valid(r) {
			t.Errorf("P2.1: Valid, row %d: %v is not valid", i, r)
		}
	}
	for i, r := range []api.Ratio{
		raw(0, 1), raw(1, 1), raw(-1, 1), raw(1, 2), raw(-3, 2), raw(1000000000, 1000000007), raw(math.MinInt64, math.MaxInt64),
		{Num: api.Int{Limbs: []uint32{}}, Den: integer.Of(1)},
		{Num: number(t, "-"+nines), Den: number(t, power(299))},
	} {
		if !Valid(r) {
			t.Errorf("P2.1: Valid, row %d: %v is valid", i, r)
		}
	}
}

func TestInvalidArguments(t *testing.T) {
	for i, bad := range invalid() {
		// The others would lead to a divisor of zero, and to a product that is too large.
		for j, b := range []api.Ratio{raw(0, 1), raw(-2, 3), parse(t, nines), parse(t, "1/"+nines), bad} {
			for k, pair := range [][2]api.Ratio{{bad, b}, {b, bad}} {
				for name, f := range operations() {
					if r, e := f(pair[0], pair[1]); e != api.ErrInvalid || !isNothing(r) {
						t.Errorf("P1: %s, row %d, %d, %d: got %v, %v", name, i, j, k, r, e)
					}
				}
				if c, e := Cmp(pair[0], pair[1]); e != api.ErrInvalid || c != 0 {
					t.Errorf("P1: Cmp, row %d, %d, %d: got %d, %v", i, j, k, c, e)
				}
			}
		}
		if s, e := Format(bad); e != api.ErrInvalid || s != "" {
			t.Errorf("P1: Format, row %d: got %q, %v", i, s, e)
		}
		for _, digits := range []int{0, 20, -1, 21} {
			if s, e := Decimal(bad, digits); e != api.ErrInvalid || s != "" {
				t.Errorf("P1: Decimal, row %d, %d digits: got %q, %v", i, digits, s, e)
			}
		}
	}
}

func TestArithmetic(t *testing.T) {
	for _, x := range []struct{ a, b, sum, difference, product, quotient string }{
		{"1/2", "1/3", "5/6", "1/6", "1/6", "3/2"},
		{"-1/2", "1/3", "-1/6", "-5/6", "-1/6", "-3/2"},
		{"1/2", "-1/3", "1/6", "5/6", "-1/6", "-3/2"},
		{"-1/2", "-1/3", "-5/6", "-1/6", "1/6", "3/2"},
		{"1/6", "1/3", "1/2", "-1/6", "1/18", "1/2"},
		{"1/2", "1/2", "1", "0", "1/4", "1"},
		{"1/2", "-1/2", "0", "1", "-1/4", "-1"},
		{"2/3", "3/2", "13/6", "-5/6", "1", "4/9"},
		{"0", "-5/7", "-5/7", "5/7", "0", "0"},
		{"3", "4", "7", "-1", "12", "3/4"},
		{"-8", "2", "-6", "-10", "-16", "-4"},
		{"1/1000000000", "1/1000000000", "1/500000000", "0", "1/1000000000000000000", "1"},
	} {
		a, b := parse(t, x.a), parse(t, x.b)
		for name, want := range map[string]string{"Add": x.sum, "Sub": x.difference, "Mul": x.product, "Div": x.quotient, "Dot": x.product} {
			if r, e := operations()[name](a, b); !is(r, e, want) {
				t.Errorf("P2.1: %s(%s, %s): got %v, %v", name, x.a, x.b, r, e)
			}
		}
	}
	for _, s := range []string{"0", "1", "-2/3", nines, "1/" + nines} {
		if r, e := Div(parse(t, s), parse(t, "0")); e != api.ErrZero || !isNothing(r) {
			t.Errorf("P2.1: Div(%s, 0): got %v, %v", s, r, e)
		}
	}
}

func TestCmp(t *testing.T) {
	ordered := []string{"-" + power(149), "-3", "-5/2", "-2", "-1000000001/1000000000", "-1", "-999999999/1000000000", "-1/2", "-1/3", "-1/" + power(149), "0", "1/" + power(149), "1/3", "1/2", "2/3", "1", "1000000001/1000000000", "3/2", "2", power(149)}
	for i, s := range ordered {
		for j, r := range ordered {
			if c, e := Cmp(parse(t, s), parse(t, r)); e != api.OK || c != max(-1, min(1, i-j)) {
				t.Errorf("P2.1: Cmp(%s, %s): got %d, %v", s, r, c, e)
			}
		}
	}
}

// TestTooLarge goes to both sides of the limit, with results that would be small in lowest terms or without products.
func TestTooLarge(t *testing.T) {
	large, tiny := parse(t, power(150)), parse(t, "1/"+power(150))
	less := parse(t, "1/"+power(149))
	wide := parse(t, "1"+strings.Repeat("0", 159)+"1/"+power(160))
	most, least := parse(t, nines), parse(t, "-"+nines)
	for _, x := range []struct {
		name string
		a, b api.Ratio
		want string
	}{
		{"Add", most, raw(1, 1), ""}, {"Add", least, raw(-1, 1), ""}, {"Add", most, least, "0"}, {"Add", most, raw(0, 1), nines},
		{"Add", tiny, tiny, ""}, {"Add", tiny, less, "11/" + power(150)}, {"Add", wide, raw(0, 1), "1" + strings.Repeat("0", 159) + "1/" + power(160)},
		{"Add", most, raw(1, 2), ""}, {"Add", raw(1, 2), most, ""}, {"Add", raw(1, 7), parse(t, "-"+power(299)), "-6" + strings.Repeat("9", 299) + "/7"}, {"Add", raw(1, 11), parse(t, power(299)), ""},
		{"Sub", least, raw(1, 1), ""}, {"Sub", most, raw(-1, 1), ""}, {"Sub", most, most, "0"},
		{"Sub", tiny, tiny, ""}, {"Sub", less, tiny, "9/" + power(150)}, {"Sub", raw(1, 2), most, ""}, {"Sub", most, raw(1, 2), ""},
		{"Mul", large, large, ""}, {"Mul", large, tiny, "1"}, {"Mul", tiny, tiny, ""}, {"Mul", tiny, less, "1/" + power(299)},
		{"Mul", large, parse(t, power(149)), power(299)}, {"Mul", most, raw(-1, 2), "-" + nines + "/2"}, {"Mul", most, raw(2, 3), ""},
		{"Mul", wide, parse(t, "-"+power(160)+"/3"), ""}, {"Mul", raw(0, 1), most, "0"}, {"Mul", tiny, raw(0, 1), "0"},
		{"Div", large, tiny, ""}, {"Div", tiny, large, ""}, {"Div", large, large, "1"}, {"Div", large, less, power(299)},
		{"Div", wide, wide, ""}, {"Div", most, least, "-1"}, {"Div", most, raw(1, 2), ""}, {"Div", raw(1, 2), least, ""}, {"Div", least, raw(-3, 1), strings.Repeat("3", 300)},
	} {
		r, e := operations()[x.name](x.a, x.b)
		if x.want == "" && (e != api.ErrTooLarge || !isNothing(r)) || x.want != "" && !is(r, e, x.want) {
			t.Errorf("P2.1: %s(%v, %v): got %v, %v", x.name, x.a, x.b, r, e)
		}
	}
	for _, x := range []struct {
		a, b api.Ratio
		want int
		e    api.Errno
	}{
		{large, tiny, 0, api.ErrTooLarge}, {tiny, large, 0, api.ErrTooLarge}, {wide, wide, 0, api.ErrTooLarge},
		{least, raw(1, 2), 0, api.ErrTooLarge}, {raw(1, 2), least, 0, api.ErrTooLarge},
		{most, least, 1, api.OK}, {large, less, 1, api.OK}, {less, large, -1, api.OK},
		// Only the denominator of their sum would be too large.
		{tiny, tiny, 0, api.OK}, {tiny, less, -1, api.OK}, {parse(t, "1/"+nines), parse(t, "1/"+power(299)), -1, api.OK},
	} {
		if c, e := Cmp(x.a, x.b); e != x.e || c != x.want {
			t.Errorf("P2.1: Cmp(%v, %v): got %d, %v", x.a, x.b, c, e)
		}
	}
}

func TestDot(t *testing.T) {
	for _, x := range []struct {
		a, b []string
		want string
	}{
		{nil, []string{}, "0"},
		{[]string{"1/2"}, []string{"2/3"}, "1/3"},
		{[]string{"1/2", "1/3", "-1"}, []string{"1", "1/2", "2"}, "-4/3"},
		{[]string{"1/2", "0", "7"}, []string{"2", "5", "-1/7"}, "0"},
		{[]string{nines, "-" + nines, nines}, []string{"1", "1", "1"}, nines},
		{[]string{"1", "2", "3", "4"}, []string{"1/5", "1/5", "1/5", "1/5"}, "2"},
	} {
		if r, e := Dot(all(t, x.a...), all(t, x.b...)); !is(r, e, x.want) {
			t.Errorf("P2.1: Dot(%q, %q): got %v, %v", x.a, x.b, r, e)
		}
	}
	one := "1"
	for _, x := range []struct{ a, b []string }{
		// The last sum would be small: sums are taken in the order of the lists.
		{[]string{nines, nines, "-" + nines}, []string{one, one, one}},
		{[]string{one, "-" + nines, "-1", one}, []string{"-1", one, one, one}},
		{[]string{nines, one}, []string{nines, one}},
		{[]string{one, power(150)}, []string{one, power(150)}},
		{[]string{"1/" + power(150), "-1/" + power(150)}, []string{one, one}},
		{[]string{one, "1/" + power(150)}, []string{one, "1/" + power(150)}},
	} {
		if r, e := Dot(all(t, x.a...), all(t, x.b...)); e != api.ErrTooLarge || !isNothing(r) {
			t.Errorf("P2.1: Dot(%.9q, %.9q): got %v, %v", x.a, x.b, r, e)
		}
	}
	for i, bad := range invalid() {
		// The first products are too large, but validity is examined before.
		long := []api.Ratio{parse(t, nines), parse(t, nines), bad}
		good := all(t, nines, nines, one)
		for j, pair := range [][2][]api.Ratio{{long, good}, {good, long}} {
			if r, e := Dot(pair[0], pair[1]); e != api.ErrInvalid || !isNothing(r) {
				t.Errorf("P1: Dot, row %d, %d: got %v, %v", i, j, r, e)
			}
			// The lengths are examined first of all.
			if r, e := Dot(pair[0], pair[1][:2]); e != api.ErrArity || !isNothing(r) {
				t.Errorf("P1: Dot with 3 and 2 elements, row %d, %d: got %v, %v", i, j, r, e)
			}
			if r, e := Dot(nil, pair[0]); e != api.ErrArity || !isNothing(r) {
				t.Errorf("P1: Dot with 0 and 3 elements, row %d, %d: got %v, %v", i, j, r, e)
			}
		}
	}
}

// rat returns the value of a fraction as one of math/big.
func rat(r api.Ratio) *big.Rat {
	num, _ := integer.Format(r.Num)
	den, _ := integer.Format(r.Den)
	value, _ := new(big.Rat).SetString(num + "/" + den)
	return value
}

// isLong reports whether one of some integers has too many digits.
func isLong(list ...*big.Int) bool {
	return slices.ContainsFunc(list, func(a *big.Int) bool { return len(new(big.Int).Abs(a).String()) > api.MaxDigits })
}

// reference returns the numerator and the denominator that a function leads to before they are reduced, or false if one of its products or sums is too large.
func reference(name string, a, b api.Ratio) (num, den *big.Int, fits bool) {
	p, q, r, s := rat(a).Num(), rat(a).Denom(), rat(b).Num(), rat(b).Denom()
	times := func(x, y *big.Int) *big.Int { return new(big.Int).Mul(x, y) }
	switch left, right := times(p, s), times(r, q); name {
	case "Add":
		num, den = new(big.Int).Add(left, right), times(q, s)
		return num, den, !isLong(left, right, num, den)
	case "Sub":
		num, den = new(big.Int).Sub(left, right), times(q, s)
		return num, den, !isLong(left, right, num, den)
	case "Div":
		return left, right, !isLong(left, right)
	}
	num, den = times(p, r), times(q, s)
	return num, den, !isLong(num, den)
}

// side returns a positive number with up to n digits: any number, or a product of factors that others have too, so that results can be reduced.
func side(r *rand.Rand, n int) *big.Int {
	digits := 1 + r.Intn(n)
	if r.Intn(2) == 0 {
		most := new(big.Int).Exp(big.NewInt(10), big.NewInt(int64(digits)), nil)
		most.Sub(most, big.NewInt(1))
		number := new(big.Int).Rand(r, most)
		return number.Add(number, big.NewInt(1))
	}
	product := big.NewInt(1)
	for {
		factor := []int64{2, 3, 7, 10, 10, 1000000000, 999999999, 999999937}[r.Intn(8)]
		next := new(big.Int).Mul(product, big.NewInt(factor))
		if len(next.String()) > digits {
			return product
		}
		product = next
	}
}

// random returns a fraction with up to n digits on each side.
func random(t *testing.T, r *rand.Rand, n int) api.Ratio {
	t.Helper()
	num, den := side(r, n), side(r, n)
	switch r.Intn(20) {
	case 0:
		num.SetInt64(0)
	case 1:
		den.SetInt64(1)
	case 2:
		num.SetInt64(1)
	}
	if r.Intn(2) == 0 {
		num.Neg(num)
	}
	result, e := Make(number(t, num.String()), number(t, den.String()))
	if e != api.OK || !Valid(result) || rat(result).Cmp(new(big.Rat).SetFrac(num, den)) != 0 {
		t.Fatalf("P2.1: Make(%v, %v): got %v, %v", num, den, result, e)
	}
	return result
}

// TestAgainstBig compares all operations with those of math/big, on fractions of all sizes.
func TestAgainstBig(t *testing.T) {
	r := rand.New(rand.NewSource(1))
	sizes := []int{1, 3, 20, 100, 160, 300}
	large, small := 0, 0
	for range 4000 {
		a, b := random(t, r, sizes[r.Intn(len(sizes))]), random(t, r, sizes[r.Intn(len(sizes))])
		first, second := clone(a), clone(b)
		for name, f := range operations() {
			got, e := f(a, b)
			num, den, fits := reference(name, a, b)
			switch {
			case name == "Div" && rat(b).Sign() == 0:
				if e != api.ErrZero || !isNothing(got) {
					t.Fatalf("P2.1: Div(%v, %v): got %v, %v", a, b, got, e)
				}
			case !fits:
				large++
				if e != api.ErrTooLarge || !isNothing(got) {
					t.Fatalf("P2.1: %s(%v, %v): got %v, %v for a result that is too large", name, a, b, got, e)
				}
			default:
				small++
				if e != api.OK || !Valid(got) || rat(got).Cmp(new(big.Rat).SetFrac(num, den)) != 0 {
					t.Fatalf("P2.1: %s(%v, %v): got %v, %v", name, a, b, got, e)
				}
			}
		}
		num, den, fits := reference("Div", a, b)
		c, e := Cmp(a, b)
		if fits && (e != api.OK || c != num.Cmp(den)) || !fits && (e != api.ErrTooLarge || c != 0) {
			t.Fatalf("P2.1: Cmp(%v, %v): got %d, %v", a, b, c, e)
		}
		if !same(a, first) || !same(b, second) {
			t.Fatalf("Rules: an operation changed its arguments %v, %v to %v, %v", first, second, a, b)
		}
	}
	if large < 500 || small < 500 {
		t.Errorf("%d results are too large, %d are not: too few of one kind", large, small)
	}
}

// TestDotAgainstSteps compares sums of products with their single steps, also where one of these is too large.
func TestDotAgainstSteps(t *testing.T) {
	r := rand.New(rand.NewSource(2))
	large := 0
	for range 1000 {
		n := r.Intn(7)
		var a, b []api.Ratio
		want, e := Of(0, 1)
		for range n {
			x, y := random(t, r, 60), random(t, r, 60)
			a, b = append(a, x), append(b, y)
			if e != api.OK {
				continue
			}
			var term api.Ratio
			if term, e = Mul(x, y); e == api.OK {
				want, e = Add(want, term)
			}
		}
		if e != api.OK {
			large++
			want = api.Ratio{}
		}
		if got, f := Dot(a, b); f != e || !same(got, want) {
			t.Fatalf("P2.1: Dot(%v, %v): got %v, %v; want %v, %v", a, b, got, f, want, e)
		}
	}
	if large == 0 || large == 1000 {
		t.Errorf("%d of 1000 sums are too large: too few of one kind", large)
	}
}

// TestLaws checks the consequences that are promised, for all triples of some fractions.
func TestLaws(t *testing.T) {
	list := all(t, "0", "1", "-1", "1/2", "-1/2", "2/3", "-7/6", "1000000007/1000000009", "-999999999999/1000000000000", power(30)+"/7")
	do := func(f binary, a, b api.Ratio) api.Ratio {
		r, e := f(a, b)
		if e != api.OK || !Valid(r) {
			t.Fatalf("P2.2: an operation on %v and %v: got %v, %v", a, b, r, e)
		}
		return r
	}
	for _, a := range list {
		for _, b := range list {
			if !same(do(Add, a, b), do(Add, b, a)) || !same(do(Mul, a, b), do(Mul, b, a)) {
				t.Errorf("P2.2: an operation on %v and %v is not commutative", a, b)
			}
			if !same(do(Sub, do(Add, a, b), b), a) {
				t.Errorf("P2.2: subtraction does not undo the addition of %v and %v", a, b)
			}
			if !same(b, raw(0, 1)) && !same(do(Div, do(Mul, a, b), b), a) {
				t.Errorf("P2.2: division does not undo the multiplication of %v and %v", a, b)
			}
			for _, c := range list {
				if !same(do(Mul, a, do(Add, b, c)), do(Add, do(Mul, a, b), do(Mul, a, c))) {
					t.Errorf("P2.2: multiplication of %v, %v, %v is not distributive", a, b, c)
				}
			}
		}
	}
}

// spoil overwrites the memory of an integer, also that beyond its length.
func spoil(a api.Int) {
	limbs := a.Limbs[:cap(a.Limbs)]
	for i := range limbs {
		limbs[i] = 123
	}
}

// TestMemory overwrites results: neither the arguments, nor other results, nor the other field may notice it.
func TestMemory(t *testing.T) {
	texts := []string{"0", "1", "-6", "1/2", "-2/3", "1000000007/1000000009", power(149), nines, "-1/" + nines}
	for _, s := range texts {
		for _, r := range texts {
			a, b := parse(t, s), parse(t, r)
			for name, f := range operations() {
				first, _ := f(a, b)
				second, _ := f(a, b)
				before := clone(first)
				spoil(first.Num)
				if !sameInt(first.Den, before.Den) || !same(second, before) {
					t.Fatalf("Rules: the results of %s(%s, %s) share memory", name, s, r)
				}
				spoil(first.Den)
				if !same(second, before) || !same(a, parse(t, s)) || !same(b, parse(t, r)) {
					t.Fatalf("Rules: the result of %s(%s, %s) shares memory with an argument", name, s, r)
				}
			}
		}
		num, den := parse(t, s).Num, parse(t, s).Den
		result, _ := Make(num, den)
		spoil(result.Num)
		spoil(result.Den)
		if !same(api.Ratio{Num: num, Den: den}, parse(t, s)) {
			t.Fatalf("Rules: the result of Make for %s shares memory with its arguments", s)
		}
		num = parse(t, "-6").Num
		result, _ = Make(num, num)
		spoil(result.Num)
		if !same(api.Ratio{Num: num, Den: result.Den}, raw(-6, 1)) {
			t.Fatal("Rules: the result of Make for equal arguments shares memory")
		}
	}
	a, b := all(t, "1/2", nines), all(t, "-1/3", "0")
	first, _ := Dot(a, b)
	spoil(first.Num)
	spoil(first.Den)
	if second, e := Dot(a, b); !is(second, e, "-1/6") {
		t.Errorf("Rules: the result of Dot shares memory with its arguments or an earlier one: got %v, %v", second, e)
	}
	empty, _ := Dot(nil, nil)
	spoil(empty.Den)
	if second, e := Dot(nil, nil); !is(second, e, "0") {
		t.Errorf("Rules: two results of Dot share memory: got %v, %v", second, e)
	}
}
