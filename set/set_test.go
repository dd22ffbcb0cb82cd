package set

import (
	"iter"
	"math"
	"math/rand"
	"regexp"
	"slices"
	"sort"
	"strconv"
	"strings"
	"testing"

	"sederunt/api"
)

// everySet is the number of values of api.Set.
const everySet = 1 << 16

// plainMembers returns the members of a set by its value: the number i has the value 2^i.
func plainMembers(s api.Set) []int {
	var l []int
	value := int(s)
	for i := 0; value > 0; i++ {
		if value%2 == 1 {
			l = append(l, i)
		}
		value /= 2
	}
	return l
}

// plainFormat returns the text of a set by the chapter's words.
func plainFormat(s api.Set) string {
	text := "{"
	for place, i := range plainMembers(s) {
		if place > 0 {
			text += " "
		}
		text += strconv.Itoa(i)
	}
	return text + "}"
}

// plainLess reports whether a set comes before another one.
func plainLess(a, b api.Set) bool {
	m, n := len(plainMembers(a)), len(plainMembers(b))
	return m < n || m == n && a < b
}

// plainSubsets returns the subsets in order, among all values up to that of the set, with k members, or with any number of them if k is negative.
func plainSubsets(s api.Set, k int) []api.Set {
	var l []api.Set
	for value := range int(s) + 1 {
		part := api.Set(value)
		if part&s == part && (k < 0 || len(plainMembers(part)) == k) {
			l = append(l, part)
		}
	}
	sort.Slice(l, func(i, j int) bool { return plainLess(l[i], l[j]) })
	return l
}

// plainOf returns the set of some numbers, and the error of the first one that has one.
func plainOf(l []int) (api.Set, api.Errno) {
	seen := map[int]bool{}
	value := 0
	for _, i := range l {
		if i < 0 || i > 11 {
			return 0, api.ErrRange
		}
		if seen[i] {
			return 0, api.ErrExists
		}
		seen[i] = true
		value += int(math.Pow(2, float64(i)))
	}
	return api.Set(value), api.OK
}

// plainRename renames by the entries of the members up to the first one without an entry, which then is out of range.
func plainRename(s api.Set, to []int) (api.Set, api.Errno) {
	var entries []int
	for _, i := range plainMembers(s) {
		entry := -1
		if i < len(to) {
			entry = to[i]
		}
		entries = append(entries, entry)
	}
	return plainOf(entries)
}

// checkOf compares Of of some numbers with the chapter's words.
func checkOf(t *testing.T, l []int) {
	t.Helper()
	given := slices.Clone(l)
	got, e := Of(l...)
	want, wantErr := plainOf(l)
	if got != want || e != wantErr {
		t.Fatalf("P7.1: Of(%v) = %d, %v, want %d, %v", given, got, e, want, wantErr)
	}
	if !slices.Equal(l, given) {
		t.Fatalf("P7.1: Of(%v) changed its numbers to %v", given, l)
	}
}

func TestOf(t *testing.T) {
	rows := []struct {
		numbers []int
		want    api.Set
		e       api.Errno
	}{
		{nil, 0, api.OK},
		{[]int{}, 0, api.OK},
		{[]int{2, 0, 5}, 37, api.OK},
		{[]int{0}, 1, api.OK},
		{[]int{11}, 2048, api.OK},
		{[]int{11, 10, 9, 8, 7, 6, 5, 4, 3, 2, 1, 0}, 4095, api.OK},
		{[]int{12}, 0, api.ErrRange},
		{[]int{-1}, 0, api.ErrRange},
		{[]int{16}, 0, api.ErrRange},
		{[]int{math.MaxInt}, 0, api.ErrRange},
		{[]int{math.MinInt}, 0, api.ErrRange},
		{[]int{3, 3}, 0, api.ErrExists},
		{[]int{3, 4, 3}, 0, api.ErrExists},
		{[]int{12, 12}, 0, api.ErrRange},
		{[]int{0, 0, 12}, 0, api.ErrExists},
		{[]int{0, 12, 0}, 0, api.ErrRange},
		{[]int{0, 1, 2, 3, 4, 5, 6, 7, 8, 9, 10, 11, 0}, 0, api.ErrExists},
		{[]int{0, 1, 2, 3, 4, 5, 6, 7, 8, 9, 10, 11, 12}, 0, api.ErrRange},
	}
	for _, row := range rows {
		got, e := Of(row.numbers...)
		if got != row.want || e != row.e {
			t.Errorf("P7.1: Of(%v) = %d, %v, want %d, %v", row.numbers, got, e, row.want, row.e)
		}
	}
}

func TestOfTriples(t *testing.T) {
	for i := -2; i <= 17; i++ {
		for j := -2; j <= 17; j++ {
			for k := -2; k <= 17; k++ {
				checkOf(t, []int{i, j, k})
			}
		}
	}
}

func TestOfRandom(t *testing.T) {
	random := rand.New(rand.NewSource(71))
	for range 20000 {
		l := random.Perm(12)[:random.Intn(13)]
		if len(l) > 0 && random.Intn(2) == 0 {
			l[random.Intn(len(l))] = random.Intn(14) - 1
		}
		checkOf(t, l)
	}
}

func TestMembersCountAndFormat(t *testing.T) {
	for value := range everySet {
		s := api.Set(value)
		members := plainMembers(s)
		if got := Members(s); !slices.Equal(got, members) {
			t.Fatalf("P7.1: Members(%d) = %v, want %v", s, got, members)
		}
		if got := Count(s); got != len(members) {
			t.Fatalf("P7.1: Count(%d) = %d, want %d", s, got, len(members))
		}
		if got, want := Format(s), plainFormat(s); got != want {
			t.Fatalf("P7.1: Format(%d) = %q, want %q", s, got, want)
		}
	}
}

func TestFormatRows(t *testing.T) {
	rows := []struct {
		set  api.Set
		want string
	}{
		{0, "{}"},
		{1, "{0}"},
		{37, "{0 2 5}"},
		{1 << 11, "{11}"},
		{1 << 15, "{15}"},
		{4095, "{0 1 2 3 4 5 6 7 8 9 10 11}"},
		{65535, "{0 1 2 3 4 5 6 7 8 9 10 11 12 13 14 15}"},
	}
	for _, row := range rows {
		if got := Format(row.set); got != row.want {
			t.Errorf("P7.1: Format(%d) = %q, want %q", row.set, got, row.want)
		}
	}
}

func TestMembersAreNew(t *testing.T) {
	l := Members(37)
	l[0] = 9
	if got := Members(37); !slices.Equal(got, []int{0, 2, 5}) {
		t.Errorf("P7.1: Members(37) = %v after a change of an earlier result, want [0 2 5]", got)
	}
}

func TestMembersLeadBack(t *testing.T) {
	for value := range 1 << 12 {
		s := api.Set(value)
		if got, e := Of(Members(s)...); got != s || e != api.OK {
			t.Fatalf("P7.1: Of(Members(%d)...) = %d, %v", s, got, e)
		}
	}
}

func TestFull(t *testing.T) {
	want := []api.Set{0, 1, 3, 7, 15, 31, 63, 127, 255, 511, 1023, 2047, 4095}
	for n := -3; n < 40; n++ {
		s, e := Full(n)
		if n < 0 || n > 12 {
			if s != 0 || e != api.ErrRange {
				t.Errorf("P7.1: Full(%d) = %d, %v, want ErrRange", n, s, e)
			}
		} else if s != want[n] || e != api.OK {
			t.Errorf("P7.1: Full(%d) = %d, %v, want %d", n, s, e, want[n])
		}
	}
	for _, n := range []int{math.MinInt, math.MinInt32, 64, 65, 256, math.MaxInt32, math.MaxInt} {
		if s, e := Full(n); s != 0 || e != api.ErrRange {
			t.Errorf("P7.1: Full(%d) = %d, %v, want ErrRange", n, s, e)
		}
	}
}

// checkCompare compares Compare of two sets, in both orders, with the chapter's words.
func checkCompare(t *testing.T, a, b api.Set) {
	t.Helper()
	want := 0
	if plainLess(a, b) {
		want = -1
	} else if plainLess(b, a) {
		want = 1
	}
	if got := Compare(a, b); got != want {
		t.Fatalf("P7.1: Compare(%d, %d) = %d, want %d", a, b, got, want)
	}
	if got := Compare(b, a); got != -want {
		t.Fatalf("P7.2: Compare(%d, %d) = %d, want %d", b, a, got, -want)
	}
}

func TestCompare(t *testing.T) {
	if Compare(1<<3, 3) != -1 {
		t.Error("P7.1: {3} does not come before {0 1}")
	}
	for a := range api.Set(1 << 9) {
		for b := range a + 1 {
			checkCompare(t, a, b)
		}
	}
	random := rand.New(rand.NewSource(72))
	for range 50000 {
		a := api.Set(random.Intn(everySet))
		checkCompare(t, a, api.Set(random.Intn(everySet)))
		// Sets that differ in two members have mostly equally many of them.
		checkCompare(t, a, a^1<<random.Intn(16)^1<<random.Intn(16))
	}
}

func TestOrderIsTotal(t *testing.T) {
	var l []api.Set
	for value := range everySet {
		l = append(l, api.Set(value))
	}
	rand.New(rand.NewSource(73)).Shuffle(len(l), func(i, j int) { l[i], l[j] = l[j], l[i] })
	slices.SortFunc(l, Compare)
	if l[0] != 0 {
		t.Errorf("P7.2: the least set is %d, want the empty one", l[0])
	}
	for i := range l[1:] {
		if !plainLess(l[i], l[i+1]) || Compare(l[i], l[i+1]) != -1 {
			t.Fatalf("P7.2: %d comes before %d in the sorted list of all sets", l[i], l[i+1])
		}
	}
	for _, s := range l {
		if Compare(s, s) != 0 || Compare(0, s) != -1 && s != 0 {
			t.Fatalf("P7.2: Compare(%d, %d) = %d, Compare(0, %d) = %d", s, s, Compare(s, s), s, Compare(0, s))
		}
	}
}

func TestSubsetComesBefore(t *testing.T) {
	for value := range everySet {
		s := api.Set(value)
		for _, i := range plainMembers(s) {
			// All proper subsets are reached by removing one member after the other.
			if part := s &^ (1 << i); Compare(part, s) != -1 || Compare(s, part) != 1 {
				t.Fatalf("P7.2: %d does not come before its superset %d", part, s)
			}
		}
	}
	for value := range 1 << 10 {
		s := api.Set(value) << 3
		for _, part := range plainSubsets(s, -1) {
			if part != s && Compare(part, s) != -1 {
				t.Fatalf("P7.2: %d does not come before its superset %d", part, s)
			}
		}
	}
}

func TestSubsets(t *testing.T) {
	if got := slices.Collect(Subsets(5)); !slices.Equal(got, []api.Set{0, 1, 4, 5}) {
		t.Errorf("P7.1: Subsets of {0 2} are %v, want [0 1 4 5]", got)
	}
	if got := slices.Collect(Subsets(0)); !slices.Equal(got, []api.Set{0}) {
		t.Errorf("P7.1: Subsets of {} are %v, want [0]", got)
	}
	for value := range 1 << 10 {
		checkSubsets(t, api.Set(value))
		checkSubsets(t, api.Set(value)<<6)
	}
	random := rand.New(rand.NewSource(74))
	for range 10 {
		checkSubsets(t, api.Set(random.Intn(everySet)))
	}
	checkSubsets(t, 4095)
	checkSubsets(t, 65535)
}

// checkSubsets compares Subsets, and Choose for all numbers of members, with the chapter's words.
func checkSubsets(t *testing.T, s api.Set) {
	t.Helper()
	want := plainSubsets(s, -1)
	got := slices.Collect(Subsets(s))
	if !slices.Equal(got, want) {
		t.Fatalf("P7.1: Subsets(%d) = %v, want %v", s, got, want)
	}
	size := len(plainMembers(s))
	if len(got) != 1<<size {
		t.Fatalf("P7.2: %d has %d subsets, and %d members", s, len(got), size)
	}
	byCount := map[int][]api.Set{}
	for _, part := range want {
		k := len(plainMembers(part))
		byCount[k] = append(byCount[k], part)
	}
	for k := -2; k <= 18; k++ {
		if got := slices.Collect(Choose(s, k)); !slices.Equal(got, byCount[k]) {
			t.Fatalf("P7.1: Choose(%d, %d) = %v, want %v", s, k, got, byCount[k])
		}
	}
}

func TestChooseRows(t *testing.T) {
	rows := []struct {
		set  api.Set
		k    int
		want []api.Set
	}{
		{0, 0, []api.Set{0}},
		{0, 1, nil},
		{0, -1, nil},
		{7, 2, []api.Set{3, 5, 6}},
		{37, 2, []api.Set{5, 33, 36}},
		{37, 3, []api.Set{37}},
		{37, 4, nil},
		{1 << 15, 1, []api.Set{1 << 15}},
		{65535, 16, []api.Set{65535}},
		{65535, 17, nil},
		{65535, math.MaxInt, nil},
		{65535, math.MinInt, nil},
	}
	for _, row := range rows {
		if got := slices.Collect(Choose(row.set, row.k)); !slices.Equal(got, row.want) {
			t.Errorf("P7.1: Choose(%d, %d) = %v, want %v", row.set, row.k, got, row.want)
		}
	}
}

// checkUses leaves a sequence behind each number of sets, and then goes through it twice.
func checkUses(t *testing.T, name string, seq iter.Seq[api.Set], want []api.Set) {
	t.Helper()
	for wish := 1; wish <= len(want); wish++ {
		var got []api.Set
		seq(func(s api.Set) bool {
			got = append(got, s)
			return len(got) != wish
		})
		if !slices.Equal(got, want[:wish]) {
			t.Fatalf("P7.1: %s yields %v if it is left behind %d sets, want %v", name, got, wish, want[:wish])
		}
	}
	for range 2 {
		if got := slices.Collect(seq); !slices.Equal(got, want) {
			t.Fatalf("P7.1: %s yields %v, want %v", name, got, want)
		}
	}
	var pairs int
	for a := range seq {
		for b := range seq {
			if a != want[pairs/len(want)] || b != want[pairs%len(want)] {
				t.Fatalf("P7.1: %s within itself yields %d and %d as pair %d", name, a, b, pairs)
			}
			pairs++
		}
	}
	if pairs != len(want)*len(want) {
		t.Fatalf("P7.1: %s within itself yields %d pairs, want %d", name, pairs, len(want)*len(want))
	}
}

func TestSequencesAreUsedAgainAndLeft(t *testing.T) {
	for _, s := range []api.Set{0, 1, 37, 1<<15 | 5, 63, 255} {
		checkUses(t, "Subsets of "+plainFormat(s), Subsets(s), plainSubsets(s, -1))
		for k := range len(plainMembers(s)) + 1 {
			checkUses(t, "Choose "+strconv.Itoa(k)+" of "+plainFormat(s), Choose(s, k), plainSubsets(s, k))
		}
	}
}

func TestSequencesTogether(t *testing.T) {
	var got []api.Set
	few, many := Choose(7, 1), Choose(7, 2)
	for a := range few {
		for b := range many {
			if a&b == 0 {
				got = append(got, a, b)
			}
		}
	}
	if !slices.Equal(got, []api.Set{1, 6, 2, 5, 4, 3}) {
		t.Errorf("P7.1: a set with one member and a set with two are disjoint: %v, want [1 6 2 5 4 3]", got)
	}
}

// allTexts returns the texts of all sets of the numbers from 0 to 11.
func allTexts() map[string]api.Set {
	texts := map[string]api.Set{}
	for value := range 1 << 12 {
		texts[plainFormat(api.Set(value))] = api.Set(value)
	}
	return texts
}

// checkParse compares Parse of a text with the texts of all sets.
func checkParse(t *testing.T, texts map[string]api.Set, s string) {
	t.Helper()
	wantErr := api.ErrSyntax
	want, ok := texts[s]
	if ok {
		wantErr = api.OK
	}
	if got, e := Parse(s); got != want || e != wantErr {
		t.Fatalf("P7.1: Parse(%q) = %d, %v, want %d, %v", s, got, e, want, wantErr)
	}
}

func TestParseRows(t *testing.T) {
	valid := map[string]api.Set{"{}": 0, "{0}": 1, "{0 2 5}": 37, "{11}": 2048, "{0 1 2 3 4 5 6 7 8 9 10 11}": 4095}
	for text, want := range valid {
		if got, e := Parse(text); got != want || e != api.OK {
			t.Errorf("P7.1: Parse(%q) = %d, %v, want %d", text, got, e, want)
		}
	}
	invalid := []string{
		"", "{", "}", "}{", "{{}}", "{}}", "{{}", "{} ", " {}", "{ }", "{}{}", "{}\n",
		"0", "{0", "0}", "{0 }", "{ 0}", "{0  1}", "{0,1}", "{0\t1}", "{0\n1}", "{0\u00a01}",
		"{1 0}", "{0 0}", "{0 1 0}", "{00}", "{01}", "{+1}", "{-1}", "{-0}", "{0x1}", "{1_0}", "{a}", "{1.0}", "{1e0}",
		"{12}", "{15}", "{0 12}", "{12 0}", "{99999999999999999999}", "{\uff11}", "{0} {1}", "{0}{1}", "(0)", "[0]",
		"{0 1 2 3 4 5 6 7 8 9 10 11 12 13 14 15}", "{0 1 2 3 4 5 6 7 8 9 10 11 11}", "\x00", "{\x00}", "{0\x00}", "\xff{}",
		"{" + strings.Repeat(" ", 100000) + "}", strings.Repeat("{", 100000), "{" + strings.Repeat("0", 100000) + "}",
	}
	for _, text := range invalid {
		if got, e := Parse(text); got != 0 || e != api.ErrSyntax {
			t.Errorf("P7.1: Parse(%.60q) = %d, %v, want ErrSyntax", text, got, e)
		}
	}
}

func TestParseAllTexts(t *testing.T) {
	texts := allTexts()
	for text := range texts {
		checkParse(t, texts, text)
		for i := range text {
			checkParse(t, texts, text[:i])
			checkParse(t, texts, text[i:])
			checkParse(t, texts, text[:i]+text[i+1:])
			for _, character := range "{} 0129+" {
				checkParse(t, texts, text[:i]+string(character)+text[i:])
				checkParse(t, texts, text[:i]+string(character)+text[i+1:])
			}
		}
	}
}

func TestParseShortTexts(t *testing.T) {
	texts := allTexts()
	shape := regexp.MustCompile(`^\{(\d+( \d+)*)?\}$`)
	level := []string{""}
	for range 7 {
		var longer []string
		for _, text := range level {
			for _, character := range "{} 012" {
				longer = append(longer, text+string(character))
			}
		}
		for _, text := range longer {
			checkParse(t, texts, text)
			if _, e := Parse(text); e == api.OK && !shape.MatchString(text) {
				t.Fatalf("P7.1: Parse(%q) has no error", text)
			}
		}
		level = longer
	}
}

func TestParseLeadsBack(t *testing.T) {
	for value := range everySet {
		s := api.Set(value)
		got, e := Parse(Format(s))
		if s < 1<<12 && (got != s || e != api.OK) {
			t.Fatalf("P7.1: Parse(%q) = %d, %v", Format(s), got, e)
		}
		if s >= 1<<12 && (got != 0 || e != api.ErrSyntax) {
			t.Fatalf("P7.1: Parse(%q) = %d, %v, want ErrSyntax", Format(s), got, e)
		}
	}
}

// checkRename compares Rename with the chapter's words, and the numbers of members.
func checkRename(t *testing.T, s api.Set, to []int) {
	t.Helper()
	given := slices.Clone(to)
	got, e := Rename(s, to)
	want, wantErr := plainRename(s, to)
	if got != want || e != wantErr {
		t.Fatalf("P7.1: Rename(%d, %v) = %d, %v, want %d, %v", s, given, got, e, want, wantErr)
	}
	if e == api.OK && Count(got) != Count(s) {
		t.Fatalf("P7.2: Rename(%d, %v) has %d members, want %d", s, given, Count(got), Count(s))
	}
	if !slices.Equal(to, given) {
		t.Fatalf("P7.1: Rename(%d, %v) changed its list to %v", s, given, to)
	}
}

func TestRenameRows(t *testing.T) {
	rows := []struct {
		set  api.Set
		to   []int
		want api.Set
		e    api.Errno
	}{
		{5, []int{4, 9, 1}, 18, api.OK},
		{0, nil, 0, api.OK},
		{0, []int{-1, 12}, 0, api.OK},
		{1, nil, 0, api.ErrRange},
		{1, []int{}, 0, api.ErrRange},
		{4, []int{12, -1, 3}, 8, api.OK},
		{4, []int{3, 4}, 0, api.ErrRange},
		{5, []int{3, 3, 4}, 24, api.OK},
		{5, []int{3, 4, 3}, 0, api.ErrExists},
		{7, []int{3, 3}, 0, api.ErrExists},
		{7, []int{3, 3, 12}, 0, api.ErrExists},
		{7, []int{3, 12, 3}, 0, api.ErrRange},
		{3, []int{12, 12}, 0, api.ErrRange},
		{1, []int{-1}, 0, api.ErrRange},
		{1, []int{math.MaxInt}, 0, api.ErrRange},
		{1, []int{math.MinInt}, 0, api.ErrRange},
		{1, []int{11}, 2048, api.OK},
		{1 << 15, []int{0, 1, 2, 3, 4, 5, 6, 7, 8, 9, 10, 11, 12, 13, 14, 6}, 64, api.OK},
		{1 << 15, []int{0, 1, 2, 3, 4, 5, 6, 7, 8, 9, 10, 11, 12, 13, 14}, 0, api.ErrRange},
		{65535, []int{0, 1, 2, 3, 4, 5, 6, 7, 8, 9, 10, 11, 12, 13, 14, 15}, 0, api.ErrRange},
		{65535, []int{0, 1, 2, 3, 4, 5, 6, 7, 8, 9, 10, 11, 0, 1, 2, 3}, 0, api.ErrExists},
	}
	for _, row := range rows {
		got, e := Rename(row.set, row.to)
		if got != row.want || e != row.e {
			t.Errorf("P7.1: Rename(%d, %v) = %d, %v, want %d, %v", row.set, row.to, got, e, row.want, row.e)
		}
	}
}

func TestRenameSmall(t *testing.T) {
	entries := []int{-1, 0, 1, 11, 12}
	for s := range api.Set(16) {
		for _, a := range entries {
			checkRename(t, s, []int{a})
			for _, b := range entries {
				checkRename(t, s, []int{a, b})
				for _, c := range entries {
					checkRename(t, s, []int{a, b, c})
				}
			}
		}
	}
}

func TestRenameRandom(t *testing.T) {
	random := rand.New(rand.NewSource(75))
	for range 20000 {
		to := random.Perm(16)[:random.Intn(17)]
		for range random.Intn(3) {
			if len(to) > 0 {
				to[random.Intn(len(to))] = random.Intn(12)
			}
		}
		checkRename(t, api.Set(random.Intn(everySet)&random.Intn(everySet)), to)
	}
}

func TestRenameIsUndone(t *testing.T) {
	random := rand.New(rand.NewSource(76))
	for value := range 1 << 12 {
		s := api.Set(value)
		to := random.Perm(12)
		back := make([]int, 12)
		for i, renamed := range to {
			back[renamed] = i
		}
		middle, e := Rename(s, to)
		if e != api.OK || Count(middle) != Count(s) {
			t.Fatalf("P7.2: Rename(%d, %v) = %d, %v", s, to, middle, e)
		}
		if got, e := Rename(middle, back); got != s || e != api.OK {
			t.Fatalf("P7.2: renaming %d by %v and back leads to %d, %v", s, to, got, e)
		}
	}
}
