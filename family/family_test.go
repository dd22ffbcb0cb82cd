package family

import (
	"iter"
	"math"
	"math/rand"
	"slices"
	"sort"
	"strconv"
	"strings"
	"testing"

	"sederunt/api"
)

// contains reports whether a set contains another one, number by number.
func contains(s, part api.Set) bool {
	for i := range 16 {
		if part>>i&1 == 1 && s>>i&1 == 0 {
			return false
		}
	}
	return true
}

// size counts the members of a set.
func size(s api.Set) int {
	n := 0
	for ; s > 0; s /= 2 {
		n += int(s % 2)
	}
	return n
}

// before reports whether a set comes before another one.
func before(a, b api.Set) bool { return size(a) < size(b) || size(a) == size(b) && a < b }

// plainAccepts says by the chapter's words which sets a list accepts.
func plainAccepts(l []api.Set, s api.Set) bool {
	accepted := false
	for _, part := range l {
		accepted = accepted || contains(s, part)
	}
	return accepted
}

// plainPick returns the sets of a list for which nothing else in it rules them out, each once, in order.
func plainPick(l []api.Set, rulesOut func(other, s api.Set) bool) []api.Set {
	var picked []api.Set
	for _, s := range l {
		ruledOut := false
		for _, other := range l {
			ruledOut = ruledOut || other != s && rulesOut(other, s)
		}
		if !ruledOut && !slices.Contains(picked, s) {
			picked = append(picked, s)
		}
	}
	sort.Slice(picked, func(i, k int) bool { return before(picked[i], picked[k]) })
	return picked
}

// plainMinimal returns the sets that contain no other set of a list.
func plainMinimal(l []api.Set) []api.Set {
	return plainPick(l, func(other, s api.Set) bool { return contains(s, other) })
}

// plainMaximal returns the sets that are contained in no other set of a list.
func plainMaximal(l []api.Set) []api.Set { return plainPick(l, contains) }

// plainBounded returns a result, or the errors of Minimal and Maximal.
func plainBounded(l, result []api.Set) ([]api.Set, api.Errno) {
	for _, s := range l {
		if s > 4095 {
			return nil, api.ErrRange
		}
	}
	if len(result) > 400 {
		return nil, api.ErrTooLarge
	}
	return result, api.OK
}

// plainValid returns the error of a family by the chapter's words.
func plainValid(f []api.Set) api.Errno {
	if len(f) > 400 {
		return api.ErrTooLarge
	}
	for i, s := range f {
		if s > 4095 {
			return api.ErrRange
		}
		if i > 0 && !before(f[i-1], s) {
			return api.ErrInvalid
		}
	}
	for i, s := range f {
		for k, other := range f {
			if i != k && contains(s, other) {
				return api.ErrInvalid
			}
		}
	}
	return api.OK
}

// plainFormat returns the text of a list of sets.
func plainFormat(l []api.Set) string {
	text := ""
	for _, s := range l {
		text += " {"
		gap := ""
		for i := range 16 {
			if s>>i&1 == 1 {
				text += gap + strconv.Itoa(i)
				gap = " "
			}
		}
		text += "}"
	}
	return strings.TrimPrefix(text, " ")
}

// families returns the families of the first n servers, up to 4 of them, by what they accept.
func families(n int) [][]api.Set {
	byAccepted := map[string][]api.Set{}
	sets := 1 << n
	for choice := range 1 << sets {
		var l []api.Set
		for s := range sets {
			if choice>>s&1 == 1 {
				l = append(l, api.Set(s))
			}
		}
		f := plainMinimal(l)
		byAccepted[plainFormat(f)] = f
	}
	var all [][]api.Set
	for _, f := range byAccepted {
		all = append(all, f)
	}
	sort.Slice(all, func(i, k int) bool { return plainFormat(all[i]) < plainFormat(all[k]) })
	return all
}

// randomList returns a list of sets with repetitions, most of them in range.
func randomList(random *rand.Rand, length int) []api.Set {
	var l []api.Set
	for range random.Intn(length + 1) {
		s := random.Intn(4096)
		switch random.Intn(4) {
		case 0:
			s &= random.Intn(4096)
		case 1:
			s |= random.Intn(4096)
		}
		l = append(l, api.Set(s))
		if random.Intn(4) == 0 {
			l = append(l, l[random.Intn(len(l))])
		}
	}
	if random.Intn(20) == 0 && len(l) > 0 {
		l[random.Intn(len(l))] |= 1 << (12 + random.Intn(4))
	}
	return l
}

// randomFamily returns a family of at most a number of sets.
func randomFamily(random *rand.Rand, length int) []api.Set {
	var l []api.Set
	for range random.Intn(length + 1) {
		l = append(l, api.Set(random.Intn(4096)&random.Intn(4096)))
	}
	return plainMinimal(l)
}

// ofSize returns the sets of k of the first n servers in order.
func ofSize(n, k int) []api.Set {
	var l []api.Set
	for s := range 1 << n {
		if size(api.Set(s)) == k {
			l = append(l, api.Set(s))
		}
	}
	return l
}

// changing calls a function and reports whether it changed its lists.
func changing(call func(), lists ...[]api.Set) bool {
	var given [][]api.Set
	for _, l := range lists {
		given = append(given, slices.Clone(l))
	}
	call()
	return !slices.EqualFunc(lists, given, slices.Equal)
}

// result is what a function of this package returns.
type result struct {
	l []api.Set
	e api.Errno
}

// of keeps two results together.
func of(l []api.Set, e api.Errno) result { return result{l, e} }

// same reports whether two results are equal.
func (r result) same(other result) bool { return slices.Equal(r.l, other.l) && r.e == other.e }

// checkValid compares Valid with the chapter's words.
func checkValid(t *testing.T, f []api.Set) {
	t.Helper()
	var got api.Errno
	if changing(func() { got = Valid(f) }, f) {
		t.Fatalf("P8.1: Valid changed its list to %v", f)
	}
	if want := plainValid(f); got != want {
		t.Fatalf("P8.1: Valid(%v) = %v, want %v", f, got, want)
	}
}

func TestValidRows(t *testing.T) {
	rows := []struct {
		f []api.Set
		e api.Errno
	}{
		{nil, api.OK},
		{[]api.Set{}, api.OK},
		{[]api.Set{0}, api.OK},
		{[]api.Set{3, 5, 6}, api.OK},
		{[]api.Set{8, 3, 5, 6}, api.OK},
		{[]api.Set{4095}, api.OK},
		{[]api.Set{4096}, api.ErrRange},
		{[]api.Set{65535}, api.ErrRange},
		{[]api.Set{3, 3}, api.ErrInvalid},
		{[]api.Set{5, 3}, api.ErrInvalid},
		{[]api.Set{3, 8}, api.ErrInvalid},
		{[]api.Set{1, 3}, api.ErrInvalid},
		{[]api.Set{0, 1}, api.ErrInvalid},
		{[]api.Set{1, 2, 12, 3072, 14}, api.ErrInvalid},
		// The sets are examined in order, and only then whether one contains another one.
		{[]api.Set{3, 3, 4096}, api.ErrInvalid},
		{[]api.Set{4096, 1, 1}, api.ErrRange},
		{[]api.Set{8192, 4096}, api.ErrRange},
		{[]api.Set{3, 4096}, api.ErrRange},
		{[]api.Set{1, 3, 4099}, api.ErrRange},
	}
	for _, row := range rows {
		if e := Valid(row.f); e != row.e {
			t.Errorf("P8.1: Valid(%v) = %v, want %v", row.f, e, row.e)
		}
	}
}

func TestValidSmallLists(t *testing.T) {
	values := []api.Set{0, 1, 2, 8, 3, 5, 6, 7, 2048, 4095, 4096, 4097, 32768}
	lists := [][]api.Set{nil}
	for length := 0; length <= 4; length++ {
		var longer [][]api.Set
		for _, l := range lists {
			checkValid(t, l)
			for _, s := range values {
				longer = append(longer, append(slices.Clone(l), s))
			}
		}
		lists = longer
	}
}

func TestValidLimit(t *testing.T) {
	middle := ofSize(12, 6)
	for n := 395; n <= 405; n++ {
		checkValid(t, middle[:n])
		checkValid(t, append(slices.Clone(middle[:n-1]), 4096))
		checkValid(t, append([]api.Set{4096}, middle[:n-1]...))
		checkValid(t, append(slices.Clone(middle[:n-1]), 0))
		checkValid(t, append(slices.Clone(middle[:n-1]), middle[n]|1<<11|1))
	}
	if Valid(middle[:400]) != api.OK || Valid(middle[:401]) != api.ErrTooLarge {
		t.Errorf("P8.1: Valid of 400 and 401 sets = %v, %v", Valid(middle[:400]), Valid(middle[:401]))
	}
}

// checkEnds compares Minimal and Maximal of a list with the chapter's words.
func checkEnds(t *testing.T, l []api.Set) {
	t.Helper()
	var least, greatest result
	if changing(func() { least, greatest = of(Minimal(l)), of(Maximal(l)) }, l) {
		t.Fatalf("P8.1: Minimal and Maximal changed their list to %v", l)
	}
	if want := of(plainBounded(l, plainMinimal(l))); !least.same(want) {
		t.Fatalf("P8.1: Minimal(%v) = %v, want %v", l, least, want)
	}
	if want := of(plainBounded(l, plainMaximal(l))); !greatest.same(want) {
		t.Fatalf("P8.1: Maximal(%v) = %v, want %v", l, greatest, want)
	}
}

func TestEndsRows(t *testing.T) {
	example := []api.Set{3, 2, 5, 2}
	if got := of(Minimal(example)); !got.same(of([]api.Set{2, 5}, api.OK)) {
		t.Errorf("P8.1: Minimal(%v) = %v", example, got)
	}
	if got := of(Maximal(example)); !got.same(of([]api.Set{3, 5}, api.OK)) {
		t.Errorf("P8.1: Maximal(%v) = %v", example, got)
	}
	for _, l := range [][]api.Set{
		nil, {}, {0}, {0, 0}, {0, 1}, {4095, 0, 7}, {8, 3}, {3, 8}, {6, 5, 3}, {4095}, {2048, 2049, 1},
		{4096}, {0, 4096}, {4096, 0}, {65535}, {1, 3, 7, 15, 31}, {31, 15, 7, 3, 1},
	} {
		checkEnds(t, l)
	}
}

func TestEndsSmallLists(t *testing.T) {
	for choice := range 1 << 8 {
		var l []api.Set
		for s := range api.Set(8) {
			if choice>>s&1 == 1 {
				l = append(l, s)
			}
		}
		checkEnds(t, l)
		slices.Reverse(l)
		checkEnds(t, l)
		checkEnds(t, append(l, l...))
	}
}

func TestEndsRandom(t *testing.T) {
	random := rand.New(rand.NewSource(81))
	for range 10000 {
		checkEnds(t, randomList(random, 12))
	}
	for range 50 {
		checkEnds(t, randomList(random, 300))
	}
}

func TestEndsLimit(t *testing.T) {
	random := rand.New(rand.NewSource(82))
	middle := ofSize(12, 6)
	random.Shuffle(len(middle), func(i, k int) { middle[i], middle[k] = middle[k], middle[i] })
	for _, n := range []int{399, 400, 401, 402, 924} {
		l := slices.Clone(middle[:n])
		checkEnds(t, l)
		// What is repeated, and what is neither least nor greatest, does not count.
		checkEnds(t, slices.Concat(l, l[:100]))
		checkEnds(t, append(l, middle[0]&^1))
		checkEnds(t, append(l, middle[0]|1<<5|1<<7))
		checkEnds(t, append(l, 4096))
		checkEnds(t, append([]api.Set{4096 | 1}, l...))
	}
	var all []api.Set
	for s := range api.Set(4096) {
		all = append(all, s, 4095-s)
	}
	long := slices.Repeat(all, 100)
	if got := of(Minimal(long)); !got.same(of([]api.Set{0}, api.OK)) {
		t.Errorf("P8.1: Minimal of all sets = %v, want {}", got)
	}
	if got := of(Maximal(long)); !got.same(of([]api.Set{4095}, api.OK)) {
		t.Errorf("P8.1: Maximal of all sets = %v, want the greatest one", got)
	}
}

func TestMinimalIsFamily(t *testing.T) {
	random := rand.New(rand.NewSource(83))
	for range 3000 {
		l := randomList(random, 20)
		f, e := Minimal(l)
		if e != api.OK {
			continue
		}
		if Valid(f) != api.OK {
			t.Fatalf("P8.1: Minimal(%v) = %v, which is no family", l, f)
		}
		for range 50 {
			s := api.Set(random.Intn(4096))
			if plainAccepts(l, s) != Accepts(f, s) {
				t.Fatalf("P8.1: Minimal(%v) = %v accepts %d differently", l, f, s)
			}
		}
	}
}

func TestAccepts(t *testing.T) {
	rows := []struct {
		l    []api.Set
		s    api.Set
		want bool
	}{
		{nil, 0, false},
		{nil, 65535, false},
		{[]api.Set{0}, 0, true},
		{[]api.Set{0}, 65535, true},
		{[]api.Set{3, 5, 6}, 1, false},
		{[]api.Set{3, 5, 6}, 6, true},
		{[]api.Set{3, 5, 6}, 15, true},
		{[]api.Set{1 << 15}, 1<<15 | 1, true},
		{[]api.Set{1 << 15}, 1<<15 - 1, false},
		{[]api.Set{1<<12 | 1, 2}, 1, false},
		{[]api.Set{1<<12 | 1, 2}, 1<<12 | 1, true},
	}
	for _, row := range rows {
		if got := Accepts(row.l, row.s); got != row.want {
			t.Errorf("P8.1: Accepts(%v, %d) = %v", row.l, row.s, got)
		}
	}
	random := rand.New(rand.NewSource(84))
	for range 20000 {
		l, s := randomList(random, 6), api.Set(random.Intn(65536))
		if random.Intn(2) == 0 {
			s = api.Set(random.Intn(4096))
		}
		if got, want := Accepts(l, s), plainAccepts(l, s); got != want {
			t.Fatalf("P8.1: Accepts(%v, %d) = %v, want %v", l, s, got, want)
		}
	}
}

// plainWithin reports whether the second list accepts each set of the first one.
func plainWithin(f, g []api.Set) bool {
	within := true
	for _, s := range f {
		within = within && plainAccepts(g, s)
	}
	return within
}

func TestWithinLists(t *testing.T) {
	rows := []struct {
		f, g []api.Set
		want bool
	}{
		{nil, nil, true},
		{nil, []api.Set{3}, true},
		{[]api.Set{0}, nil, false},
		{[]api.Set{3}, nil, false},
		{[]api.Set{3}, []api.Set{0}, true},
		{[]api.Set{0}, []api.Set{3}, false},
		{[]api.Set{7, 3}, []api.Set{3, 3}, true},
		{[]api.Set{7, 3}, []api.Set{5}, false},
		{[]api.Set{5, 3}, []api.Set{5}, false},
		{[]api.Set{1<<15 | 1}, []api.Set{1 << 15}, true},
		{[]api.Set{1 << 14}, []api.Set{1 << 15}, false},
	}
	for _, row := range rows {
		if got := Within(row.f, row.g); got != row.want {
			t.Errorf("P8.1: Within(%v, %v) = %v", row.f, row.g, got)
		}
	}
	random := rand.New(rand.NewSource(85))
	for range 20000 {
		f, g := randomList(random, 3), randomList(random, 5)
		if got, want := Within(f, g), plainWithin(f, g); got != want {
			t.Fatalf("P8.1: Within(%v, %v) = %v, want %v", f, g, got, want)
		}
	}
}

func TestWithinFamilies(t *testing.T) {
	all := families(4)
	if len(all) != 168 {
		t.Fatalf("there are %d families of 4 servers, want 168", len(all))
	}
	for _, f := range all {
		for _, g := range all {
			more, equal := true, true
			for s := range api.Set(16) {
				more = more && (!plainAccepts(f, s) || plainAccepts(g, s))
				equal = equal && plainAccepts(f, s) == plainAccepts(g, s)
			}
			if got := Within(f, g); got != more {
				t.Fatalf("P8.2: Within(%v, %v) = %v, want %v", f, g, got, more)
			}
			if equal != slices.Equal(f, g) || equal != (Within(f, g) && Within(g, f)) {
				t.Fatalf("P8.2: %v and %v accept the same sets: %v", f, g, equal)
			}
		}
	}
}

// checkBoth compares Or and And of two families with what they have to accept among the first n servers.
func checkBoth(t *testing.T, n int, f, g []api.Set) {
	t.Helper()
	var either, both result
	if changing(func() { either, both = of(Or(f, g)), of(And(f, g)) }, f, g) {
		t.Fatalf("P8.1: Or and And changed their families to %v and %v", f, g)
	}
	if either.e != api.OK || Valid(either.l) != api.OK {
		t.Fatalf("P8.1: Or(%v, %v) = %v", f, g, either)
	}
	if both.e != api.OK || Valid(both.l) != api.OK {
		t.Fatalf("P8.1: And(%v, %v) = %v", f, g, both)
	}
	for s := range api.Set(1) << n {
		one, other := plainAccepts(f, s), plainAccepts(g, s)
		if plainAccepts(either.l, s) != (one || other) {
			t.Fatalf("P8.1: Or(%v, %v) = %v, wrong for %d", f, g, either.l, s)
		}
		if plainAccepts(both.l, s) != (one && other) {
			t.Fatalf("P8.1: And(%v, %v) = %v, wrong for %d", f, g, both.l, s)
		}
	}
	if !either.same(of(Or(g, f))) || !both.same(of(And(g, f))) {
		t.Fatalf("P8.2: Or or And of %v and %v is not commutative", f, g)
	}
}

func TestOrAndRows(t *testing.T) {
	two, last := []api.Set{3, 5, 6}, []api.Set{8}
	if got := of(And(two, last)); !got.same(of([]api.Set{11, 13, 14}, api.OK)) {
		t.Errorf("P8.1: And(%v, %v) = %v", two, last, got)
	}
	if got := of(Or(two, last)); !got.same(of([]api.Set{8, 3, 5, 6}, api.OK)) {
		t.Errorf("P8.1: Or(%v, %v) = %v", two, last, got)
	}
	for _, f := range [][]api.Set{nil, {0}, two, last, {4095}} {
		neutral := of(f, api.OK)
		if got := of(Or(f, nil)); !got.same(neutral) {
			t.Errorf("P8.1: Or(%v, nothing) = %v", f, got)
		}
		if got := of(And(f, []api.Set{0})); !got.same(neutral) {
			t.Errorf("P8.1: And(%v, everything) = %v", f, got)
		}
		if got := of(Or(f, []api.Set{0})); !got.same(of([]api.Set{0}, api.OK)) {
			t.Errorf("P8.1: Or(%v, everything) = %v", f, got)
		}
		if got := of(And(f, nil)); !got.same(result{}) {
			t.Errorf("P8.1: And(%v, nothing) = %v", f, got)
		}
	}
}

func TestOrAndFamilies(t *testing.T) {
	all := families(4)
	for _, f := range all {
		for _, g := range all {
			checkBoth(t, 4, f, g)
		}
	}
	random := rand.New(rand.NewSource(86))
	for range 300 {
		checkBoth(t, 12, randomFamily(random, 8), randomFamily(random, 8))
	}
}

// checkLaws checks that Or and And of three families are associative and distributive.
func checkLaws(t *testing.T, f, g, h []api.Set) {
	t.Helper()
	or := func(a, b []api.Set) []api.Set { return unfailing(t, "Or", a, b, Or) }
	and := func(a, b []api.Set) []api.Set { return unfailing(t, "And", a, b, And) }
	laws := []struct {
		name        string
		left, right []api.Set
	}{
		{"Or is associative", or(or(f, g), h), or(f, or(g, h))},
		{"And is associative", and(and(f, g), h), and(f, and(g, h))},
		{"And is distributive", and(f, or(g, h)), or(and(f, g), and(f, h))},
		{"Or is distributive", or(f, and(g, h)), and(or(f, g), or(f, h))},
	}
	for _, law := range laws {
		if !slices.Equal(law.left, law.right) {
			t.Fatalf("P8.2: %s: %v and %v, of %v, %v and %v", law.name, law.left, law.right, f, g, h)
		}
	}
}

// unfailing returns what Or or And returns without an error.
func unfailing(t *testing.T, name string, f, g []api.Set, call func(f, g []api.Set) ([]api.Set, api.Errno)) []api.Set {
	t.Helper()
	l, e := call(f, g)
	if e != api.OK {
		t.Fatalf("P8.1: %s(%v, %v) = %v", name, f, g, e)
	}
	return l
}

func TestLaws(t *testing.T) {
	all := families(3)
	for _, f := range all {
		for _, g := range all {
			for _, h := range all {
				checkLaws(t, f, g, h)
			}
		}
	}
	random := rand.New(rand.NewSource(87))
	for range 2000 {
		checkLaws(t, randomFamily(random, 5), randomFamily(random, 5), randomFamily(random, 5))
	}
}

func TestErrorsOfFamilies(t *testing.T) {
	middle := ofSize(12, 6)
	bad := []struct {
		f []api.Set
		e api.Errno
	}{
		{middle[:401], api.ErrTooLarge},
		{[]api.Set{4096}, api.ErrRange},
		{[]api.Set{1, 1}, api.ErrInvalid},
		{[]api.Set{1, 3}, api.ErrInvalid},
		{[]api.Set{2, 1}, api.ErrInvalid},
	}
	for _, x := range bad {
		want := result{nil, x.e}
		for _, good := range [][]api.Set{nil, {0}, {3, 5}, middle[:400]} {
			for _, got := range []result{of(Or(x.f, good)), of(Or(good, x.f)), of(And(x.f, good)), of(And(good, x.f))} {
				if !got.same(want) {
					t.Errorf("P8.1: Or or And of %v and %v = %v, want %v", x.f, good, got, x.e)
				}
			}
		}
		for _, y := range bad {
			if one, other := of(Or(x.f, y.f)), of(And(x.f, y.f)); !one.same(want) || !other.same(want) {
				t.Errorf("P8.1: Or and And of %v and %v = %v and %v, want %v", x.f, y.f, one, other, x.e)
			}
		}
		for _, s := range []api.Set{0, 1, 4095, 65535} {
			if one, other := of(Given(x.f, s)), of(Without(x.f, s)); !one.same(want) || !other.same(want) {
				t.Errorf("P8.1: Given and Without of %v and %d = %v and %v, want %v", x.f, s, one, other, x.e)
			}
		}
	}
}

func TestOrLimit(t *testing.T) {
	middle := ofSize(12, 6)
	for _, n := range []int{1, 200, 399, 400} {
		if got := of(Or(middle[:n], middle[n:400])); !got.same(of(middle[:400], api.OK)) {
			t.Errorf("P8.1: Or of %d and %d sets = %v", n, 400-n, got)
		}
		if got := of(Or(middle[:n], middle[n:401])); !got.same(result{nil, api.ErrTooLarge}) {
			t.Errorf("P8.1: Or of %d and %d sets = %v, want ErrTooLarge", n, 401-n, got)
		}
		if got := of(Or(middle[:n], middle[:400])); !got.same(of(middle[:400], api.OK)) {
			t.Errorf("P8.1: Or of %d sets and 400 with them = %v", n, got)
		}
	}
	// Each of the smaller sets leaves out some of the greater ones.
	if got := of(Or(middle[:400], ofSize(12, 1))); !got.same(of(ofSize(12, 1), api.OK)) {
		t.Errorf("P8.1: Or of 400 sets and all servers = %v", got)
	}
}

func TestAndLimit(t *testing.T) {
	low, high := ofSize(6, 3), []api.Set{}
	for _, s := range low {
		high = append(high, s<<6)
	}
	checkBoth(t, 12, low, high)
	got, e := And(low, high)
	if len(got) != 400 || e != api.OK {
		t.Errorf("P8.1: And of two families of 20 sets has %d sets, %v, want 400", len(got), e)
	}
	// The union of this set with each one of high is the set itself, and contains no other union.
	more := append(slices.Clone(low), 3|63<<6)
	for _, l := range []result{of(And(more, high)), of(And(high, more))} {
		if !l.same(result{nil, api.ErrTooLarge}) {
			t.Errorf("P8.1: And with 401 sets = %v, want ErrTooLarge", l)
		}
	}
	middle := ofSize(12, 6)
	if l := of(And(middle[:400], middle[:400])); !l.same(of(middle[:400], api.OK)) {
		t.Errorf("P8.1: And of a family of 400 sets with itself = %v", l)
	}
	if l := of(And(middle[:400], []api.Set{4095})); !l.same(of([]api.Set{4095}, api.OK)) {
		t.Errorf("P8.1: And of 400 sets with the greatest set = %v", l)
	}
}

// checkParts compares Given and Without of a family of the first n servers with the chapter's words.
func checkParts(t *testing.T, n int, f []api.Set, s api.Set) {
	t.Helper()
	var given, left result
	if changing(func() { given, left = of(Given(f, s)), of(Without(f, s)) }, f) {
		t.Fatalf("P8.1: Given and Without changed their family to %v", f)
	}
	if given.e != api.OK || Valid(given.l) != api.OK {
		t.Fatalf("P8.1: Given(%v, %d) = %v", f, s, given)
	}
	for x := range api.Set(1) << n {
		if plainAccepts(given.l, x) != plainAccepts(f, x|s) {
			t.Fatalf("P8.1: Given(%v, %d) = %v, wrong for %d", f, s, given.l, x)
		}
	}
	var want []api.Set
	for _, part := range f {
		if size(part)+size(s) == size(part|s) {
			want = append(want, part)
		}
	}
	if !left.same(of(want, api.OK)) {
		t.Fatalf("P8.1: Without(%v, %d) = %v, want %v", f, s, left, want)
	}
}

func TestGivenAndWithoutRows(t *testing.T) {
	two := []api.Set{3, 5, 6}
	rows := []struct {
		f           []api.Set
		s           api.Set
		given, left []api.Set
	}{
		{two, 1, []api.Set{2, 4}, []api.Set{6}},
		{two, 0, two, two},
		{two, 3, []api.Set{0}, nil},
		{two, 8, two, two},
		{two, 0xf000, two, two},
		{two, 0xf001, []api.Set{2, 4}, []api.Set{6}},
		{two, 65535, []api.Set{0}, nil},
		{nil, 65535, nil, nil},
		{nil, 0, nil, nil},
		{[]api.Set{0}, 0, []api.Set{0}, []api.Set{0}},
		{[]api.Set{0}, 65535, []api.Set{0}, []api.Set{0}},
		// What remains of greater sets can be less, come first, or be equal.
		{[]api.Set{6, 9}, 6, []api.Set{0}, []api.Set{9}},
		{[]api.Set{8, 7}, 3, []api.Set{4, 8}, []api.Set{8}},
		{[]api.Set{10, 12, 7}, 6, []api.Set{1, 8}, nil},
	}
	for _, row := range rows {
		if got := of(Given(row.f, row.s)); !got.same(of(row.given, api.OK)) {
			t.Errorf("P8.1: Given(%v, %d) = %v, want %v", row.f, row.s, got, row.given)
		}
		if got := of(Without(row.f, row.s)); !got.same(of(row.left, api.OK)) {
			t.Errorf("P8.1: Without(%v, %d) = %v, want %v", row.f, row.s, got, row.left)
		}
	}
}

func TestGivenAndWithoutFamilies(t *testing.T) {
	for _, f := range families(4) {
		for s := range api.Set(32) {
			checkParts(t, 4, f, s)
			checkParts(t, 4, f, s|0xf000)
		}
	}
	random := rand.New(rand.NewSource(88))
	for range 300 {
		checkParts(t, 12, randomFamily(random, 12), api.Set(random.Intn(65536)))
	}
	checkParts(t, 12, ofSize(12, 6)[:400], 0x8421)
}

func TestResultsShareNothing(t *testing.T) {
	f := []api.Set{3, 5, 6}
	calls := map[string]func() ([]api.Set, api.Errno){
		"Minimal":       func() ([]api.Set, api.Errno) { return Minimal(f) },
		"Maximal":       func() ([]api.Set, api.Errno) { return Maximal(f) },
		"Or":            func() ([]api.Set, api.Errno) { return Or(f, nil) },
		"Or, behind":    func() ([]api.Set, api.Errno) { return Or(nil, f) },
		"And":           func() ([]api.Set, api.Errno) { return And(f, []api.Set{0}) },
		"And, behind":   func() ([]api.Set, api.Errno) { return And([]api.Set{0}, f) },
		"Given":         func() ([]api.Set, api.Errno) { return Given(f, 0) },
		"Without":       func() ([]api.Set, api.Errno) { return Without(f, 0) },
		"Parse":         func() ([]api.Set, api.Errno) { return Parse("{0 1} {0 2} {1 2}") },
		"Or, itself":    func() ([]api.Set, api.Errno) { return Or(f, f) },
		"And, itself":   func() ([]api.Set, api.Errno) { return And(f, f) },
		"Given, others": func() ([]api.Set, api.Errno) { return Given(f, 0xfff8) },
	}
	for name, call := range calls {
		first, _ := call()
		clear(first[:cap(first)])
		if second := of(call()); !second.same(of([]api.Set{3, 5, 6}, api.OK)) {
			t.Errorf("P8.1: %s = %v after a change of an earlier result, want [3 5 6]", name, second)
		}
	}
}

func TestSupport(t *testing.T) {
	rows := []struct {
		l    []api.Set
		want api.Set
	}{
		{nil, 0},
		{[]api.Set{0}, 0},
		{[]api.Set{3, 5, 6}, 7},
		{[]api.Set{5, 5}, 5},
		{[]api.Set{1 << 15, 1}, 1<<15 | 1},
		{[]api.Set{0xf0f0, 0x0f0f}, 65535},
	}
	for _, row := range rows {
		if got := Support(row.l); got != row.want {
			t.Errorf("P8.1: Support(%v) = %d, want %d", row.l, got, row.want)
		}
	}
	random := rand.New(rand.NewSource(89))
	for range 3000 {
		l := randomList(random, 4)
		got := Support(l)
		for i := range 16 {
			occurs := slices.ContainsFunc(l, func(s api.Set) bool { return s>>i&1 == 1 })
			if occurs != (got>>i&1 == 1) {
				t.Fatalf("P8.1: Support(%v) = %d, wrong for %d", l, got, i)
			}
		}
	}
}

// plainSearch returns what Search has to yield, by the chapter's words.
func plainSearch(n int, accepts func(api.Set) bool) []api.Set {
	if n < 0 || n > 12 {
		return nil
	}
	var subsets, yielded []api.Set
	for s := range api.Set(1) << n {
		subsets = append(subsets, s)
	}
	sort.Slice(subsets, func(i, k int) bool { return before(subsets[i], subsets[k]) })
	for _, s := range subsets {
		if !plainAccepts(yielded, s) && accepts(s) {
			yielded = append(yielded, s)
		}
	}
	return yielded
}

func TestSearchOfAllPredicates(t *testing.T) {
	for n := range 5 {
		for choice := range 1 << (1 << n) {
			accepts := func(s api.Set) bool { return choice>>s&1 == 1 }
			if got, want := slices.Collect(Search(n, accepts)), plainSearch(n, accepts); !slices.Equal(got, want) {
				t.Fatalf("P8.1: Search(%d) yields %v of %b, want %v", n, got, choice, want)
			}
		}
	}
}

func TestSearchNumbers(t *testing.T) {
	threshold := func(s api.Set) bool { return size(s) >= 6 }
	everything := func(api.Set) bool { return true }
	numbers := []int{math.MinInt, -13, -1, 13, 16, 17, 64, 1 << 32, math.MaxInt}
	for n := range 13 {
		numbers = append(numbers, n)
	}
	for _, n := range numbers {
		for _, accepts := range []func(api.Set) bool{threshold, everything} {
			if got, want := slices.Collect(Search(n, accepts)), plainSearch(n, accepts); !slices.Equal(got, want) {
				t.Errorf("P8.1: Search(%d) yields %v, want %v", n, got, want)
			}
		}
	}
	if got := slices.Collect(Search(12, threshold)); !slices.Equal(got, ofSize(12, 6)) {
		t.Errorf("P8.1: Search yields %d sets of 6 of 12 servers, want all 924", len(got))
	}
}

func TestSearchAsksOnlyOfSubsets(t *testing.T) {
	for n := range 13 {
		for range Search(n, func(s api.Set) bool {
			if int(s) >= 1<<n {
				t.Fatalf("P8.1: Search(%d) asks of %d", n, s)
			}
			return size(s) == n
		}) {
		}
	}
}

func TestSearchLeadsBack(t *testing.T) {
	for n := range 5 {
		for _, f := range families(n) {
			if got := slices.Collect(Search(n, func(s api.Set) bool { return Accepts(f, s) })); !slices.Equal(got, f) {
				t.Fatalf("P8.2: Search of what %v accepts yields %v", f, got)
			}
		}
	}
	random := rand.New(rand.NewSource(810))
	for range 200 {
		f := randomFamily(random, 20)
		if got := slices.Collect(Search(12, func(s api.Set) bool { return Accepts(f, s) })); !slices.Equal(got, f) {
			t.Fatalf("P8.2: Search of what %v accepts yields %v", f, got)
		}
	}
}

func TestSearchRandomPredicates(t *testing.T) {
	random := rand.New(rand.NewSource(811))
	for range 200 {
		n := random.Intn(11)
		accepted := map[api.Set]bool{}
		for range random.Intn(100) {
			accepted[api.Set(random.Intn(1<<n))] = true
		}
		accepts := func(s api.Set) bool { return accepted[s] }
		if got, want := slices.Collect(Search(n, accepts)), plainSearch(n, accepts); !slices.Equal(got, want) {
			t.Fatalf("P8.1: Search(%d) yields %v of %v, want %v", n, got, accepted, want)
		}
	}
}

func TestSearchIsUsedAgainAndLeft(t *testing.T) {
	var seq iter.Seq[api.Set] = Search(4, func(s api.Set) bool { return s == 8 || size(s) >= 2 })
	want := []api.Set{8, 3, 5, 6}
	for wish := 1; wish <= len(want); wish++ {
		var got []api.Set
		seq(func(s api.Set) bool {
			got = append(got, s)
			return len(got) != wish
		})
		if !slices.Equal(got, want[:wish]) {
			t.Errorf("P8.1: Search yields %v if it is left behind %d sets, want %v", got, wish, want[:wish])
		}
	}
	if got := slices.Collect(seq); !slices.Equal(got, want) {
		t.Errorf("P8.1: Search yields %v if it is used again, want %v", got, want)
	}
	var pairs []api.Set
	for a := range seq {
		for b := range seq {
			if a&b != 0 && a != b {
				pairs = append(pairs, a, b)
			}
		}
	}
	if !slices.Equal(pairs, []api.Set{3, 5, 3, 6, 5, 3, 5, 6, 6, 3, 6, 5}) {
		t.Errorf("P8.1: Search within itself yields the pairs %v", pairs)
	}
}

func TestFormat(t *testing.T) {
	rows := []struct {
		l    []api.Set
		want string
	}{
		{nil, ""},
		{[]api.Set{}, ""},
		{[]api.Set{0}, "{}"},
		{[]api.Set{3, 5, 6}, "{0 1} {0 2} {1 2}"},
		{[]api.Set{6, 0, 6}, "{1 2} {} {1 2}"},
		{[]api.Set{2048, 65535}, "{11} {0 1 2 3 4 5 6 7 8 9 10 11 12 13 14 15}"},
	}
	for _, row := range rows {
		if got := Format(row.l); got != row.want {
			t.Errorf("P8.1: Format(%v) = %q, want %q", row.l, got, row.want)
		}
	}
	random := rand.New(rand.NewSource(812))
	for range 3000 {
		l := randomList(random, 6)
		if got, want := Format(l), plainFormat(l); got != want {
			t.Fatalf("P8.1: Format(%v) = %q, want %q", l, got, want)
		}
	}
}

// plainParse parses a text by the chapter's words, with all texts of sets in a map.
func plainParse(words map[string]api.Set, text string) ([]api.Set, api.Errno) {
	var l []api.Set
	for rest, more := text, text != ""; more; {
		word, behind, found := strings.Cut(rest, "} {")
		if found {
			word, behind = word+"}", "{"+behind
		}
		s, ok := words[word]
		if !ok {
			return nil, api.ErrSyntax
		}
		l = append(l, s)
		rest, more = behind, found
	}
	if e := plainValid(l); e != api.OK {
		return nil, e
	}
	return l, api.OK
}

// allWords returns the texts of all sets in range.
func allWords() map[string]api.Set {
	words := map[string]api.Set{}
	for s := range api.Set(4096) {
		words[plainFormat([]api.Set{s})] = s
	}
	return words
}

// checkParse compares Parse with the chapter's words.
func checkParse(t *testing.T, words map[string]api.Set, text string) {
	t.Helper()
	if got, want := of(Parse(text)), of(plainParse(words, text)); !got.same(want) {
		t.Fatalf("P8.1: Parse(%q) = %v, want %v", text, got, want)
	}
}

func TestParseRows(t *testing.T) {
	rows := []struct {
		text string
		want []api.Set
		e    api.Errno
	}{
		{"", nil, api.OK},
		{"{}", []api.Set{0}, api.OK},
		{"{0 1} {0 2} {1 2}", []api.Set{3, 5, 6}, api.OK},
		{"{3} {0 1}", []api.Set{8, 3}, api.OK},
		{"{11}", []api.Set{2048}, api.OK},
		{"{0 1 2 3 4 5 6 7 8 9 10 11}", []api.Set{4095}, api.OK},
		{"{0} {0}", nil, api.ErrInvalid},
		{"{1} {0}", nil, api.ErrInvalid},
		{"{0 1} {3}", nil, api.ErrInvalid},
		{"{0} {0 1}", nil, api.ErrInvalid},
		{"{} {1}", nil, api.ErrInvalid},
		// A number that is no server's makes the text wrong, whatever else is.
		{"{12}", nil, api.ErrSyntax},
		{"{0} {12}", nil, api.ErrSyntax},
		{"{1} {0} {12}", nil, api.ErrSyntax},
		{"{0} {0} ", nil, api.ErrSyntax},
		{"{1} {0}}", nil, api.ErrSyntax},
	}
	for _, row := range rows {
		if got := of(Parse(row.text)); !got.same(of(row.want, row.e)) {
			t.Errorf("P8.1: Parse(%q) = %v, want %v, %v", row.text, got, row.want, row.e)
		}
	}
	for _, text := range []string{
		" ", "  ", "{", "}", "}{", " {}", "{} ", "{}{}", "{0}{1}", "{0}  {1}", "{0} {1} ", " {0} {1}", "{0},{1}", "{0}, {1}",
		"{0}\n{1}", "{0}\t{1}", "{0}\u00a0{1}", "{0} {1}\n", "{{0} {1}}", "[{0} {1}]", "{0} 1", "0 {1}", "{0} {", "{0} }", "{0} {1",
		"{0} 1}", "{0 } {1}", "{ 0} {1}", "{0  1}", "{1 0}", "{0 0}", "{00}", "{01}", "{+1}", "{-1}", "{-0}", "{0x1}", "{a}", "{0,1}",
		"{99999999999999999999}", "{\uff11}", "{0} {\uff11}", "\x00", "{0}\x00", "{0} \x00{1}", "{0}}", "{0}} {1}", "{0} }{1}", "{0} { {1}",
		strings.Repeat("{", 100000), strings.Repeat("}", 100000), strings.Repeat(" ", 100000), strings.Repeat("{0}", 1000),
	} {
		if got := of(Parse(text)); !got.same(result{nil, api.ErrSyntax}) {
			t.Errorf("P8.1: Parse(%.60q) = %v, want ErrSyntax", text, got)
		}
	}
}

func TestParseShortTexts(t *testing.T) {
	words := allWords()
	level := []string{""}
	for range 8 {
		var longer []string
		for _, text := range level {
			checkParse(t, words, text)
			for _, character := range "{} 02" {
				longer = append(longer, text+string(character))
			}
		}
		level = longer
	}
}

func TestParseChangedTexts(t *testing.T) {
	words := allWords()
	random := rand.New(rand.NewSource(813))
	for range 300 {
		text := plainFormat(randomFamily(random, 4))
		checkParse(t, words, text)
		for i := range text {
			checkParse(t, words, text[:i])
			checkParse(t, words, text[i:])
			checkParse(t, words, text[:i]+text[i+1:])
			for _, character := range "{} 012" {
				checkParse(t, words, text[:i]+string(character)+text[i:])
				checkParse(t, words, text[:i]+string(character)+text[i+1:])
			}
		}
	}
}

func TestParseLimit(t *testing.T) {
	middle := ofSize(12, 6)
	for _, n := range []int{399, 400} {
		if got := of(Parse(plainFormat(middle[:n]))); !got.same(of(middle[:n], api.OK)) {
			t.Errorf("P8.1: Parse of the text of %d sets = %v", n, got)
		}
	}
	for _, n := range []int{401, 924} {
		text := plainFormat(middle[:n])
		if got := of(Parse(text)); !got.same(result{nil, api.ErrTooLarge}) {
			t.Errorf("P8.1: Parse of the text of %d sets = %v, want ErrTooLarge", n, got)
		}
		if got := of(Parse(text + " {12}")); !got.same(result{nil, api.ErrSyntax}) {
			t.Errorf("P8.1: Parse of a wrong text of %d sets = %v, want ErrSyntax", n+1, got)
		}
		if got := of(Parse("{0} " + text)); !got.same(result{nil, api.ErrTooLarge}) {
			t.Errorf("P8.1: Parse of the text of %d sets = %v, want ErrTooLarge", n+1, got)
		}
	}
}

func TestParseLeadsBack(t *testing.T) {
	for _, f := range families(4) {
		if got := of(Parse(Format(f))); !got.same(of(f, api.OK)) {
			t.Fatalf("P8.1: Parse(%q) = %v", Format(f), got)
		}
	}
	random := rand.New(rand.NewSource(814))
	for range 2000 {
		f := randomFamily(random, 30)
		if got := of(Parse(Format(f))); !got.same(of(f, api.OK)) {
			t.Fatalf("P8.1: Parse(%q) = %v", Format(f), got)
		}
	}
}
