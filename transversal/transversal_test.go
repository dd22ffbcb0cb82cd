package transversal

import (
	"math/rand"
	"slices"
	"sort"
	"testing"

	"sederunt/api"
	"sederunt/family"
)

// meets reports whether two sets have a common number.
func meets(a, b api.Set) bool { return a&b != 0 }

// contains reports whether a set contains another one.
func contains(s, part api.Set) bool { return s|part == s }

// size counts the members of a set.
func size(s api.Set) int {
	n := 0
	for ; s > 0; s /= 2 {
		n += int(s % 2)
	}
	return n
}

// ordered returns the minimal sets of a list, each once, in order.
func ordered(l []api.Set) []api.Set {
	var kept []api.Set
	for _, s := range l {
		greater := slices.ContainsFunc(l, func(part api.Set) bool { return part != s && contains(s, part) })
		if !greater && !slices.Contains(kept, s) {
			kept = append(kept, s)
		}
	}
	sort.Slice(kept, func(i, k int) bool {
		if size(kept[i]) != size(kept[k]) {
			return size(kept[i]) < size(kept[k])
		}
		return kept[i] < kept[k]
	})
	return kept
}

// plainHits reports whether a set meets each set of a list.
func plainHits(l []api.Set, s api.Set) bool {
	for _, part := range l {
		if !meets(part, s) {
			return false
		}
	}
	return true
}

// plainDual returns all minimal transversals of a list, however many there are.
func plainDual(l []api.Set) []api.Set {
	var hits [4096]bool
	for s := range hits {
		hits[s] = plainHits(l, api.Set(s))
	}
	var dual []api.Set
	for s := range hits {
		minimal := hits[s]
		for i := range 12 {
			// A smaller transversal leaves out some member, and what contains it is one as well.
			minimal = minimal && (s>>i&1 == 0 || !hits[s&^(1<<i)])
		}
		if minimal {
			dual = append(dual, api.Set(s))
		}
	}
	return ordered(dual)
}

// plainCoterie reports whether a family is a coterie.
func plainCoterie(f []api.Set) bool {
	for _, a := range f {
		for _, b := range f {
			if a == 0 || b == 0 || !meets(a, b) {
				return false
			}
		}
	}
	return len(f) > 0
}

// steps are the families and duals on the way from a coterie to its extension, as far as no dual is too large.
type steps struct {
	coteries, duals [][]api.Set
	e               api.Errno
}

// plainExtend returns the steps to an extension by the chapter's words.
func plainExtend(f []api.Set) steps {
	var way steps
	for {
		dual := plainDual(f)
		way.coteries, way.duals = append(way.coteries, f), append(way.duals, dual)
		if len(dual) > 400 {
			way.e = api.ErrTooLarge
			return way
		}
		if slices.Equal(dual, f) {
			return way
		}
		for _, s := range dual {
			if !slices.Contains(f, s) {
				f = ordered(append(slices.Clone(f), s))
				break
			}
		}
	}
}

// last returns the extension itself.
func (way steps) last() []api.Set {
	if way.e != api.OK {
		return nil
	}
	return way.coteries[len(way.coteries)-1]
}

// longest returns the greatest number of sets of a list of lists.
func longest(l [][]api.Set) int {
	n := 0
	for _, sets := range l {
		n = max(n, len(sets))
	}
	return n
}

// families returns all families of the first n servers.
func families(n int) [][]api.Set {
	if n == 0 {
		return [][]api.Set{nil, {0}}
	}
	var all [][]api.Set
	smaller := families(n - 1)
	for _, f := range smaller {
		for _, more := range smaller {
			// With the last server, more is accepted than without it.
			if !family.Within(f, more) {
				continue
			}
			l := slices.Clone(f)
			for _, s := range more {
				l = append(l, s|1<<(n-1))
			}
			all = append(all, ordered(l))
		}
	}
	return all
}

// ofSize returns the sets of k of the first n servers in order.
func ofSize(n, k int) []api.Set {
	var l []api.Set
	for s := range 1 << n {
		if size(api.Set(s)) == k {
			l = append(l, api.Set(s))
		}
	}
	return l
}

// randomFamily returns a family of at most a number of sets.
func randomFamily(random *rand.Rand, length int) []api.Set {
	var l []api.Set
	mask := random.Intn(4096) | random.Intn(4096)
	for range random.Intn(length + 1) {
		s := random.Intn(4096) & mask
		if random.Intn(2) == 0 {
			s &= random.Intn(4096)
		}
		l = append(l, api.Set(s))
	}
	return ordered(l)
}

// randomCoterie returns a coterie with sets of about k of twelve servers.
func randomCoterie(random *rand.Rand, length, k int) []api.Set {
	l := []api.Set{api.Set(1 + random.Intn(4095))}
	for range length {
		s := api.Set(random.Intn(4096))
		if size(s) >= k-1 && size(s) <= k+1 && s != 0 && plainHits(l, s) {
			l = append(l, s)
		}
	}
	f := ordered(l)
	return f[:min(len(f), 400)]
}

// result is what a function of this package returns.
type result struct {
	l []api.Set
	e api.Errno
}

// of keeps two results together.
func of(l []api.Set, e api.Errno) result { return result{l, e} }

// same reports whether two results are equal.
func (r result) same(other result) bool { return slices.Equal(r.l, other.l) && r.e == other.e }

// unchanged checks that a call does not change its lists.
func unchanged(t *testing.T, call func(), lists ...[]api.Set) {
	t.Helper()
	var given [][]api.Set
	for _, l := range lists {
		given = append(given, slices.Clone(l))
	}
	call()
	if !slices.EqualFunc(lists, given, slices.Equal) {
		t.Fatalf("P9.1: a function changed %v to %v", given, lists)
	}
}

// badFamilies returns lists that are no families, with their errors.
func badFamilies() []result {
	return []result{
		{ofSize(12, 6)[:401], api.ErrTooLarge},
		{append(ofSize(12, 6)[:400], 4096), api.ErrTooLarge},
		{[]api.Set{4096}, api.ErrRange},
		{[]api.Set{1, 1 << 15}, api.ErrRange},
		{[]api.Set{1, 3, 4097}, api.ErrRange},
		{[]api.Set{0, 0}, api.ErrInvalid},
		{[]api.Set{0, 1}, api.ErrInvalid},
		{[]api.Set{1, 1}, api.ErrInvalid},
		{[]api.Set{1, 3}, api.ErrInvalid},
		{[]api.Set{5, 3}, api.ErrInvalid},
		{[]api.Set{3, 1}, api.ErrInvalid},
		{[]api.Set{3, 3, 4096}, api.ErrInvalid},
	}
}

func TestHits(t *testing.T) {
	rows := []struct {
		l    []api.Set
		s    api.Set
		want bool
	}{
		{nil, 0, true},
		{[]api.Set{}, 7, true},
		{[]api.Set{0}, 0, false},
		{[]api.Set{0}, 65535, false},
		{[]api.Set{3, 5, 6}, 3, true},
		{[]api.Set{3, 5, 6}, 4, false},
		{[]api.Set{3, 5, 6}, 8, false},
		{[]api.Set{6, 6, 14, 2}, 2, true},
		{[]api.Set{6, 6, 14, 2}, 4, false},
		{[]api.Set{1 << 15, 1<<12 | 1}, 0x9000, true},
		{[]api.Set{1 << 15, 1<<12 | 1}, 0x7fff, false},
	}
	for _, row := range rows {
		if got := Hits(row.l, row.s); got != row.want {
			t.Errorf("P9.1: Hits(%v, %d) = %v", row.l, row.s, got)
		}
	}
	random := rand.New(rand.NewSource(91))
	for range 20000 {
		var l []api.Set
		for range random.Intn(6) {
			l = append(l, api.Set(random.Intn(65536)))
		}
		s := api.Set(random.Intn(65536) & random.Intn(65536))
		var got bool
		unchanged(t, func() { got = Hits(l, s) }, l)
		if want := plainHits(l, s); got != want {
			t.Fatalf("P9.1: Hits(%v, %d) = %v, want %v", l, s, got, want)
		}
	}
}

// checkDual compares Dual, IsDual and Least of a family with the chapter's words.
func checkDual(t *testing.T, f []api.Set) []api.Set {
	t.Helper()
	want := plainDual(f)
	limited := result{want, api.OK}
	if len(want) > 400 {
		limited = result{nil, api.ErrTooLarge}
	}
	var got result
	unchanged(t, func() { got = of(Dual(f)) }, f)
	if !got.same(limited) {
		t.Fatalf("P9.1: Dual(%v) = %v, want %v", f, got, limited)
	}
	if is := IsDual(f, want); is != (len(want) <= 400) {
		t.Fatalf("P9.1: IsDual(%v, %v) = %v", f, want, is)
	}
	least, e := Least(f)
	if len(want) == 0 && (least != 0 || e != api.ErrNotFound) {
		t.Fatalf("P9.1: Least(%v) = %d, %v, want ErrNotFound", f, least, e)
	}
	if len(want) > 0 && (least != want[0] || e != api.OK) {
		t.Fatalf("P9.1: Least(%v) = %d, %v, want %d", f, least, e, want[0])
	}
	return want
}

func TestDualRows(t *testing.T) {
	rows := []struct{ f, dual []api.Set }{
		{nil, []api.Set{0}},
		{[]api.Set{0}, nil},
		{[]api.Set{3, 5, 6}, []api.Set{3, 5, 6}},
		{[]api.Set{1, 6}, []api.Set{3, 5}},
		{[]api.Set{7}, []api.Set{1, 2, 4}},
		{[]api.Set{1, 2, 4}, []api.Set{7}},
		{[]api.Set{2048}, []api.Set{2048}},
		{[]api.Set{4095}, ofSize(12, 1)},
		{ofSize(12, 1), []api.Set{4095}},
		{ofSize(7, 4), ofSize(7, 4)},
		{ofSize(10, 4), ofSize(10, 7)},
		{ofSize(11, 8), ofSize(11, 4)},
		{[]api.Set{3, 12}, []api.Set{5, 6, 9, 10}},
	}
	for _, row := range rows {
		if got := of(Dual(row.f)); !got.same(result{row.dual, api.OK}) {
			t.Errorf("P9.1: Dual(%v) = %v, want %v", row.f, got, row.dual)
		}
		checkDual(t, row.f)
	}
}

func TestDualOfAllFamilies(t *testing.T) {
	counts := []int{2, 3, 6, 20, 168, 7581}
	for n, count := range counts {
		all := families(n)
		if len(all) != count {
			t.Fatalf("there are %d families of %d servers, want %d", len(all), n, count)
		}
		for _, f := range all {
			if got, want := of(Dual(f)), dualByAll(n, f); !got.same(result{want, api.OK}) {
				t.Fatalf("P9.1: Dual(%v) = %v, want %v", f, got, want)
			}
		}
	}
}

// dualByAll returns the transversals among the first n servers of which no proper subset is one.
func dualByAll(n int, f []api.Set) []api.Set {
	var all []api.Set
	for s := range api.Set(1) << n {
		if plainHits(f, s) {
			all = append(all, s)
		}
	}
	return ordered(all)
}

func TestDualRandom(t *testing.T) {
	random := rand.New(rand.NewSource(92))
	for range 300 {
		checkDual(t, randomFamily(random, 12))
	}
	for range 30 {
		checkDual(t, randomFamily(random, 60))
	}
}

// product returns the unions of three of the servers 0 to 5 and three of the servers 6 to 11: 400 sets.
func product() []api.Set {
	var l []api.Set
	for _, low := range ofSize(6, 3) {
		for _, high := range ofSize(6, 3) {
			l = append(l, low|high<<6)
		}
	}
	return ordered(l)
}

func TestDualLimit(t *testing.T) {
	sets := product()
	large := slices.Clone(sets)
	for range 3 {
		dual := plainDual(large)
		got := checkDual(t, dual)
		if !slices.Equal(got, large) || len(dual) > 400 {
			t.Fatalf("the dual of the dual of %d sets has %d", len(large), len(got))
		}
		// This set contains no set of the product, and none contains it.
		large = ordered(append(large, api.Set(1)<<(len(large)-400)|63<<6|2<<(len(large)-400)))
	}
	for _, n := range []int{1, 398, 399} {
		checkDual(t, plainDual(sets[:n]))
	}
	for k := range 13 {
		f := ofSize(12, k)
		if len(f) <= 400 {
			checkDual(t, f)
		}
	}
	// The dual of 400 of the sets has even more sets.
	checkDual(t, ofSize(12, 6)[:400])
}

func TestErrorsOfFamilies(t *testing.T) {
	for _, bad := range badFamilies() {
		if got := of(Dual(bad.l)); !got.same(result{nil, bad.e}) {
			t.Errorf("P9.1: Dual(%v) = %v, want %v", bad.l, got, bad.e)
		}
		if got := of(Extend(bad.l)); !got.same(result{nil, bad.e}) {
			t.Errorf("P9.1: Extend(%v) = %v, want %v", bad.l, got, bad.e)
		}
		if least, e := Least(bad.l); least != 0 || e != bad.e {
			t.Errorf("P9.1: Least(%v) = %d, %v, want %v", bad.l, least, e, bad.e)
		}
		if dominated, e := Dominated(bad.l); dominated || e != bad.e {
			t.Errorf("P9.1: Dominated(%v) = %v, %v, want %v", bad.l, dominated, e, bad.e)
		}
		if Coterie(bad.l) {
			t.Errorf("P9.1: Coterie(%v)", bad.l)
		}
		if dual := plainDual(bad.l); IsDual(bad.l, dual) || IsDual(dual, bad.l) || IsDual(bad.l, nil) {
			t.Errorf("P9.1: IsDual of %v and its minimal transversals %v", bad.l, dual)
		}
	}
}

func TestIsDual(t *testing.T) {
	rows := []struct {
		f, g []api.Set
		want bool
	}{
		{nil, []api.Set{0}, true},
		{[]api.Set{}, []api.Set{0}, true},
		{[]api.Set{0}, nil, true},
		{[]api.Set{0}, []api.Set{}, true},
		{nil, nil, false},
		{[]api.Set{0}, []api.Set{0}, false},
		{[]api.Set{3, 5, 6}, []api.Set{3, 5, 6}, true},
		{[]api.Set{1, 6}, []api.Set{3, 5}, true},
		{[]api.Set{1, 6}, []api.Set{5, 3}, false},
		{[]api.Set{1, 6}, []api.Set{3}, false},
		{[]api.Set{1, 6}, []api.Set{3, 3, 5}, false},
		{[]api.Set{1, 6}, []api.Set{3, 5, 7}, false},
		{[]api.Set{1, 6}, []api.Set{3, 5, 4096}, false},
		{[]api.Set{6, 1}, []api.Set{3, 5}, false},
		{[]api.Set{1, 1, 6}, []api.Set{3, 5}, false},
	}
	for _, row := range rows {
		var got bool
		unchanged(t, func() { got = IsDual(row.f, row.g) }, row.f, row.g)
		if got != row.want {
			t.Errorf("P9.1: IsDual(%v, %v) = %v", row.f, row.g, got)
		}
	}
	all := families(3)
	for _, f := range all {
		dual := plainDual(f)
		for _, g := range all {
			if got, want := IsDual(f, g), slices.Equal(dual, g); got != want {
				t.Fatalf("P9.1: IsDual(%v, %v) = %v, want %v", f, g, got, want)
			}
		}
	}
}

func TestLeast(t *testing.T) {
	rows := []struct {
		f    []api.Set
		want api.Set
		e    api.Errno
	}{
		{nil, 0, api.OK},
		{[]api.Set{0}, 0, api.ErrNotFound},
		{[]api.Set{1, 6}, 3, api.OK},
		{[]api.Set{3, 5, 6}, 3, api.OK},
		// One server is better than two with smaller numbers.
		{[]api.Set{2048 | 1, 2048 | 2}, 2048, api.OK},
		{[]api.Set{1024 | 1, 2048 | 1, 2048 | 1024}, 1025, api.OK},
		{[]api.Set{4095}, 1, api.OK},
		{ofSize(12, 1), 4095, api.OK},
		// That the dual is too large does not matter.
		{ofSize(12, 6)[:400], plainDual(ofSize(12, 6)[:400])[0], api.OK},
	}
	for _, row := range rows {
		var got api.Set
		var e api.Errno
		unchanged(t, func() { got, e = Least(row.f) }, row.f)
		if got != row.want || e != row.e {
			t.Errorf("P9.1: Least(%v) = %d, %v, want %d, %v", row.f, got, e, row.want, row.e)
		}
	}
}

// checkPairs compares Cross and Disjoint of two lists with the chapter's words.
func checkPairs(t *testing.T, f, g []api.Set) {
	t.Helper()
	var first, second api.Set
	want := api.ErrSafe
	for i := len(f) - 1; i >= 0; i-- {
		for k := len(g) - 1; k >= 0; k-- {
			if !meets(f[i], g[k]) {
				first, second, want = f[i], g[k], api.OK
			}
		}
	}
	var cross bool
	var a, b api.Set
	var e api.Errno
	unchanged(t, func() {
		cross = Cross(f, g)
		a, b, e = Disjoint(f, g)
	}, f, g)
	if cross != (want == api.ErrSafe) {
		t.Fatalf("P9.1: Cross(%v, %v) = %v", f, g, cross)
	}
	if a != first || b != second || e != want {
		t.Fatalf("P9.1: Disjoint(%v, %v) = %d, %d, %v, want %d, %d, %v", f, g, a, b, e, first, second, want)
	}
}

func TestPairs(t *testing.T) {
	lists := [][]api.Set{
		nil, {}, {0}, {0, 0}, {1}, {3, 5, 6}, {6, 5, 3}, {7, 7, 0}, {1, 2, 4}, {8, 3}, {4095}, {1 << 12}, {1<<15 | 1, 2}, {65535}, {65535, 0},
	}
	for _, f := range lists {
		for _, g := range lists {
			checkPairs(t, f, g)
		}
	}
	random := rand.New(rand.NewSource(93))
	for range 20000 {
		var lists [2][]api.Set
		for i := range lists {
			for range random.Intn(5) {
				lists[i] = append(lists[i], api.Set(random.Intn(65536)&(random.Intn(65536)|random.Intn(65536))))
			}
		}
		checkPairs(t, lists[0], lists[1])
	}
}

func TestPairsRows(t *testing.T) {
	if a, b, e := Disjoint([]api.Set{7, 2, 1}, []api.Set{3, 6, 4, 9}); a != 2 || b != 4 || e != api.OK {
		t.Errorf("P9.1: Disjoint = %d, %d, %v, want 2, 4", a, b, e)
	}
	if a, b, e := Disjoint([]api.Set{3, 5, 6}, []api.Set{3, 5, 6}); a != 0 || b != 0 || e != api.ErrSafe {
		t.Errorf("P9.1: Disjoint of two of three = %d, %d, %v, want ErrSafe", a, b, e)
	}
	if !Cross(nil, []api.Set{0}) || !Cross([]api.Set{0}, nil) || Cross([]api.Set{0}, []api.Set{0}) {
		t.Error("P9.1: Cross is wrong for empty lists or sets")
	}
}

func TestCoterieRows(t *testing.T) {
	rows := []struct {
		f    []api.Set
		want bool
	}{
		{nil, false},
		{[]api.Set{}, false},
		{[]api.Set{0}, false},
		{[]api.Set{1}, true},
		{[]api.Set{4095}, true},
		{[]api.Set{3, 5, 6}, true},
		{[]api.Set{1, 2}, false},
		{[]api.Set{1, 6}, false},
		{[]api.Set{3, 6, 12}, false},
		{[]api.Set{3, 6, 13}, true},
		{ofSize(7, 4), true},
		{ofSize(8, 4), false},
		{ofSize(10, 6), true},
		{[]api.Set{5, 3}, false},
		{[]api.Set{4097}, false},
		{[]api.Set{3, 7}, false},
	}
	for _, row := range rows {
		if got := Coterie(row.f); got != row.want {
			t.Errorf("P9.1: Coterie(%v) = %v", row.f, got)
		}
	}
}

// checkCoterie compares Coterie, Dominated and Extend of a family with the chapter's words, and returns the steps.
func checkCoterie(t *testing.T, f []api.Set) steps {
	t.Helper()
	var coterie, dominated bool
	var e api.Errno
	var extension result
	unchanged(t, func() {
		coterie = Coterie(f)
		dominated, e = Dominated(f)
		extension = of(Extend(f))
	}, f)
	if coterie != plainCoterie(f) {
		t.Fatalf("P9.1: Coterie(%v) = %v", f, coterie)
	}
	if !coterie {
		if dominated || e != api.ErrInvalid || !extension.same(result{nil, api.ErrInvalid}) {
			t.Fatalf("P9.1: Dominated(%v) = %v, %v and Extend = %v, want ErrInvalid", f, dominated, e, extension)
		}
		return steps{e: api.ErrInvalid}
	}
	way := plainExtend(f)
	if !extension.same(result{way.last(), way.e}) {
		t.Fatalf("P9.1: Extend(%v) = %v, want %v, %v", f, extension, way.last(), way.e)
	}
	wantError := api.OK
	if len(way.duals[0]) > 400 {
		wantError = api.ErrTooLarge
	}
	if dominated != (wantError == api.OK && !slices.Equal(way.duals[0], f)) || e != wantError {
		t.Fatalf("P9.1: Dominated(%v) = %v, %v, and its dual is %v", f, dominated, e, way.duals[0])
	}
	if way.e == api.OK {
		checkExtension(t, f, extension.l)
	}
	return way
}

// checkExtension checks the consequences for a coterie and its extension.
func checkExtension(t *testing.T, f, extension []api.Set) {
	t.Helper()
	if dominated, e := Dominated(extension); dominated || e != api.OK || !Coterie(extension) {
		t.Fatalf("P9.2: the extension %v of %v is dominated: %v, %v", extension, f, dominated, e)
	}
	for _, s := range f {
		if !family.Accepts(extension, s) {
			t.Fatalf("P9.2: the extension %v of %v does not accept %d", extension, f, s)
		}
	}
}

func TestExtendRows(t *testing.T) {
	rows := []struct{ f, want []api.Set }{
		{[]api.Set{7}, []api.Set{1}},
		{[]api.Set{6}, []api.Set{2}},
		{[]api.Set{4095}, []api.Set{1}},
		{[]api.Set{2048}, []api.Set{2048}},
		{[]api.Set{3, 5, 6}, []api.Set{3, 5, 6}},
		{[]api.Set{3, 5}, []api.Set{1}},
		{[]api.Set{3, 6, 13}, []api.Set{3, 5, 6}},
		{[]api.Set{7, 11, 13, 14}, []api.Set{3, 5, 6}},
		{ofSize(5, 3), ofSize(5, 3)},
		{ofSize(5, 4), []api.Set{3, 5, 6}},
	}
	for _, row := range rows {
		if got := of(Extend(row.f)); !got.same(result{row.want, api.OK}) {
			t.Errorf("P9.1: Extend(%v) = %v, want %v", row.f, got, row.want)
		}
		checkCoterie(t, row.f)
	}
}

func TestExtendAllCoteries(t *testing.T) {
	counted := 0
	for _, f := range families(5) {
		if checkCoterie(t, f).e == api.OK {
			counted++
		}
	}
	if counted == 0 {
		t.Error("there are no coteries of five servers")
	}
}

func TestExtendRandom(t *testing.T) {
	random := rand.New(rand.NewSource(94))
	for range 60 {
		checkCoterie(t, randomCoterie(random, random.Intn(60), 2+random.Intn(9)))
	}
	for range 300 {
		checkCoterie(t, randomFamily(random, 3))
	}
}

// sided returns the unions of server 0 and a set of one list, and those of server 1 and a set of another one.
func sided(zero, one []api.Set) []api.Set {
	var l []api.Set
	for _, s := range zero {
		l = append(l, s|1)
	}
	for _, s := range one {
		l = append(l, s|2)
	}
	return ordered(l)
}

// weaken replaces some set of a family by the sets with one more of the servers 2 to 11.
func weaken(random *rand.Rand, f []api.Set) []api.Set {
	i := random.Intn(len(f))
	l := slices.Delete(slices.Clone(f), i, i+1)
	for server := 2; server < 12; server++ {
		if f[i]>>server&1 == 0 {
			l = append(l, f[i]|1<<server)
		}
	}
	return ordered(l)
}

func TestExtendLimitOfDuals(t *testing.T) {
	if way := checkCoterie(t, ofSize(12, 7)[:400]); len(way.duals) != 1 || way.e != api.ErrTooLarge {
		t.Errorf("the first dual has %d sets, want too many", len(way.duals[0]))
	}
	// The dual consists of {0 1} and of what meets all of these sets; with {0 1} in the coterie, that counts twice.
	var sets []api.Set
	for _, s := range ofSize(10, 6)[:200] {
		sets = append(sets, s<<2)
	}
	way := checkCoterie(t, sided(sets, sets))
	if len(way.duals) != 2 || way.e != api.ErrTooLarge {
		t.Errorf("%d duals are computed, want a second one that is too large", len(way.duals))
	}
	random := rand.New(rand.NewSource(95))
	for range 20 {
		checkCoterie(t, randomCoterie(random, 1200, 6))
	}
}

// Only a dual can be too large, but no coterie on the way.
func TestExtendLongCoteries(t *testing.T) {
	random := rand.New(rand.NewSource(96))
	for range 2000 {
		var zero []api.Set
		share, k := 60+random.Intn(40), 4+random.Intn(4)
		for _, s := range ofSize(10, k) {
			if random.Intn(100) < share {
				zero = append(zero, s<<2)
			}
		}
		one := plainDual(zero)
		if total := len(zero) + len(one); total < 396 || total > 404 {
			continue
		}
		for range 5 {
			zero, one = weaken(random, zero), weaken(random, one)
		}
		f := sided(zero, one)
		if len(f) != 400 {
			continue
		}
		way := checkCoterie(t, f)
		if way.e == api.OK && longest(way.coteries) > 400 {
			return
		}
	}
	t.Error("no coterie has more than 400 sets on the way to its extension")
}

func TestDominatedRows(t *testing.T) {
	rows := []struct {
		f    []api.Set
		want bool
		e    api.Errno
	}{
		{[]api.Set{3, 5, 6}, false, api.OK},
		{[]api.Set{1}, false, api.OK},
		{[]api.Set{2048}, false, api.OK},
		{ofSize(7, 4), false, api.OK},
		{[]api.Set{7}, true, api.OK},
		{[]api.Set{3, 5}, true, api.OK},
		{[]api.Set{7, 11, 13, 14}, true, api.OK},
		{[]api.Set{4095}, true, api.OK},
		{nil, false, api.ErrInvalid},
		{[]api.Set{0}, false, api.ErrInvalid},
		{[]api.Set{1, 2}, false, api.ErrInvalid},
		{ofSize(8, 4), false, api.ErrInvalid},
		// What is no coterie is no coterie, however large its dual is.
		{ofSize(12, 6)[262:662], false, api.ErrInvalid},
		{ofSize(12, 7)[:400], false, api.ErrTooLarge},
	}
	for _, row := range rows {
		if got, e := Dominated(row.f); got != row.want || e != row.e {
			t.Errorf("P9.1: Dominated(%v) = %v, %v, want %v, %v", row.f, got, e, row.want, row.e)
		}
	}
}

// checkDuality checks the consequences for a family of the first n servers and its dual.
func checkDuality(t *testing.T, n int, f []api.Set) {
	t.Helper()
	dual, e := Dual(f)
	if e != api.OK {
		return
	}
	if again := of(Dual(dual)); !again.same(result{f, api.OK}) || !IsDual(dual, f) || !IsDual(f, dual) {
		t.Fatalf("P9.2: the dual of the dual of %v is %v", f, again)
	}
	if !Cross(f, dual) || !Cross(dual, f) {
		t.Fatalf("P9.2: %v and its dual %v do not cross", f, dual)
	}
	for s := range api.Set(1) << n {
		if Hits(f, s) != family.Accepts(dual, s) {
			t.Fatalf("P9.2: Hits(%v, %d) = %v, and the dual is %v", f, s, Hits(f, s), dual)
		}
	}
}

func TestDuality(t *testing.T) {
	for n := range 6 {
		for _, f := range families(n) {
			checkDuality(t, n, f)
		}
	}
	random := rand.New(rand.NewSource(97))
	for range 300 {
		checkDuality(t, 12, randomFamily(random, 15))
	}
	checkDuality(t, 12, product())
}

func TestWhatCrosses(t *testing.T) {
	all := families(4)
	for _, f := range all {
		dual, _ := Dual(f)
		for _, g := range all {
			if got, want := Cross(f, g), family.Within(g, dual); got != want {
				t.Fatalf("P9.2: Cross(%v, %v) = %v, and the dual is %v", f, g, got, dual)
			}
		}
	}
	random := rand.New(rand.NewSource(98))
	for range 3000 {
		f, g := randomFamily(random, 4), randomFamily(random, 4)
		dual, e := Dual(f)
		if got, want := Cross(f, g), family.Within(g, dual); e == api.OK && got != want {
			t.Fatalf("P9.2: Cross(%v, %v) = %v, and the dual is %v", f, g, got, dual)
		}
	}
}

func TestResultsShareNothing(t *testing.T) {
	two := []api.Set{3, 5, 6}
	for name, call := range map[string]func([]api.Set) ([]api.Set, api.Errno){"Dual": Dual, "Extend": Extend} {
		first, _ := call(two)
		clear(first[:cap(first)])
		if second := of(call(two)); !second.same(result{[]api.Set{3, 5, 6}, api.OK}) {
			t.Errorf("P9.1: %s = %v after a change of an earlier result", name, second)
		}
	}
}

func TestExtendWritesNothingBehindItsCoterie(t *testing.T) {
	all := []api.Set{7, 9, 9, 9}
	if got := of(Extend(all[:1])); !got.same(result{[]api.Set{1}, api.OK}) || !slices.Equal(all, []api.Set{7, 9, 9, 9}) {
		t.Errorf("P9.1: Extend of the first of %v = %v", all, got)
	}
}
