package merkle

import (
	"math"
	"slices"
	"strconv"
	"testing"

	"sederunt/api"
)

// peaksOf returns the peaks of a list: the greatest power of two of its leaves first.
func peaksOf(l []string) []string {
	if len(l) == 0 {
		return nil
	}
	k := half(len(l) + 1)
	return append([]string{top(sum, l[:k])}, peaksOf(l[k:])...)
}

func TestPeaksExamples(t *testing.T) {
	a, b, c := sum("leafa"), sum("leafb"), sum("leafc")
	four := sum("node" + sum("node"+a+b) + sum("node"+c+a))
	for _, x := range []struct {
		l, want []string
	}{
		{nil, nil}, {[]string{}, nil}, {[]string{"a"}, []string{a}}, {[]string{"a", "b"}, []string{sum("node" + a + b)}},
		{[]string{"a", "b", "c"}, []string{sum("node" + a + b), c}}, {[]string{"a", "b", "c", "a"}, []string{four}},
		{[]string{"a", "b", "c", "a", "b", "c"}, []string{four, sum("node" + b + c)}},
		{[]string{"a", "b", "c", "a", "b", "c", ""}, []string{four, sum("node" + b + c), sum("leaf")}},
	} {
		if got := Peaks(x.l); !slices.Equal(got, x.want) {
			t.Errorf("P5.1: Peaks(%q) = %s, want %s", x.l, got, x.want)
		}
	}
}

func TestPeaks(t *testing.T) {
	for n := range 140 {
		for _, l := range leafLists(n) {
			if got, want := Peaks(l), peaksOf(l); !slices.Equal(got, want) {
				t.Errorf("P5.1: Peaks of %d leaves = %s, want %s", n, got, want)
			}
		}
	}
}

func TestBag(t *testing.T) {
	for n := range 140 {
		for _, l := range leafLists(n) {
			if got, e := Bag(peaksOf(l), n); e != api.OK || got != Root(l) {
				t.Errorf("P5.2: Bag of the peaks of %d leaves = %s, %v, want %s", n, got, e, Root(l))
			}
		}
	}
	// The digests need not be those of leaves.
	x, y, z := sum("x"), sum("y"), sum("z")
	for _, c := range []struct {
		peaks []string
		n     int
		want  string
	}{
		{nil, 0, "root0 " + sum("empty")}, {[]string{}, 0, "root0 " + sum("empty")}, {[]string{x}, 1, "root1 " + x}, {[]string{x}, 64, "root64 " + x},
		{[]string{x, y}, 3, "root3 " + sum("node"+x+y)}, {[]string{x, y}, 65, "root65 " + sum("node"+x+y)},
		{[]string{x, y, z}, 7, "root7 " + sum("node"+x+sum("node"+y+z))}, {[]string{x, y, z}, 41, "root41 " + sum("node"+x+sum("node"+y+z))},
	} {
		if got, e := Bag(c.peaks, c.n); e != api.OK || got != sum(c.want) {
			t.Errorf("P5.1: Bag(%s, %d) = %s, %v, want the digest of %s", c.peaks, c.n, got, e, c.want)
		}
	}
}

func TestAppend(t *testing.T) {
	for _, l := range leafLists(140) {
		var peaks []string
		for n, leaf := range l {
			longer, e := Append(peaks, n, leaf)
			if want := peaksOf(l[:n+1]); e != api.OK || !slices.Equal(longer, want) {
				t.Errorf("P5.2: Append to %d leaves = %s, %v, want %s", n, longer, e, want)
			}
			peaks = longer
		}
	}
	x, y, leaf := sum("x"), sum("y"), sum("leafa")
	for _, c := range []struct {
		peaks []string
		n     int
		want  []string
	}{
		{[]string{}, 0, []string{leaf}}, {[]string{x}, 1, []string{sum("node" + x + leaf)}}, {[]string{x}, 2, []string{x, leaf}},
		{[]string{x, y}, 3, []string{sum("node" + x + sum("node"+y+leaf))}}, {[]string{x, y}, 5, []string{x, sum("node" + y + leaf)}},
		{[]string{x, y}, 6, []string{x, y, leaf}},
	} {
		if got, e := Append(c.peaks, c.n, "a"); e != api.OK || !slices.Equal(got, c.want) {
			t.Errorf("P5.1: Append(%s, %d, a) = %s, %v, want %s", c.peaks, c.n, got, e, c.want)
		}
	}
}

func TestPeaksOfMostLeaves(t *testing.T) {
	const most = 1 << 20
	nodes := equalNodes()
	var falling []string
	for i := 19; i >= 0; i-- {
		falling = append(falling, nodes[i])
	}
	if got, e := Append(falling, most-1, ""); e != api.OK || !slices.Equal(got, nodes[20:]) {
		t.Errorf("P5.1: Append to 2^20 - 1 leaves = %s, %v", got, e)
	}
	if got, e := Append(nodes[20:], most, ""); e != api.OK || !slices.Equal(got, []string{nodes[20], nodes[0]}) {
		t.Errorf("P5.1: Append to 2^20 leaves = %s, %v", got, e)
	}
	if got, e := Bag(nodes[20:], most); e != api.OK || got != sum("root1048576 "+nodes[20]) {
		t.Errorf("P5.1: Bag of 2^20 leaves = %s, %v", got, e)
	}
	two := []string{nodes[20], nodes[0]}
	if got, e := Append(two, most+1, ""); e != api.ErrRange || len(got) != 0 {
		t.Errorf("P5.1: Append to 2^20 + 1 leaves = %s, %v", got, e)
	}
	if got, e := Bag(two, most+1); e != api.ErrRange || got != "" {
		t.Errorf("P5.1: Bag of 2^20 + 1 leaves = %s, %v", got, e)
	}
}

func TestPeaksErrors(t *testing.T) {
	x, y := sum("x"), sum("y")
	type wrong struct {
		peaks []string
		n     int
		want  api.Errno
	}
	l := []wrong{
		{nil, -1, api.ErrRange}, {[]string{""}, -1, api.ErrRange}, {[]string{x}, math.MinInt, api.ErrRange}, {[]string{x, ""}, 1<<20 + 1, api.ErrRange},
		{nil, math.MaxInt, api.ErrRange}, {[]string{x}, 1 << 21, api.ErrRange}, {[]string{x}, 1 << 32, api.ErrRange},
		{[]string{x}, 0, api.ErrArity}, {nil, 1, api.ErrArity}, {[]string{x, y}, 2, api.ErrArity}, {[]string{x}, 3, api.ErrArity},
		{[]string{x, y, x}, 5, api.ErrArity}, {[]string{"", ""}, 4, api.ErrArity}, {[]string{""}, 3, api.ErrArity}, {nil, 1 << 20, api.ErrArity},
	}
	for _, s := range notDigests() {
		l = append(l, wrong{[]string{s}, 1, api.ErrDigest}, wrong{[]string{s}, 8, api.ErrDigest}, wrong{[]string{x, s}, 3, api.ErrDigest},
			wrong{[]string{s, y}, 10, api.ErrDigest}, wrong{[]string{x, s, y}, 7, api.ErrDigest})
	}
	for _, c := range l {
		if got, e := Append(c.peaks, c.n, "a"); e != c.want || len(got) != 0 {
			t.Errorf("P5.1: Append(%q, %d, a) = %q, %v, want %v", c.peaks, c.n, got, e, c.want)
		}
		if got, e := Bag(c.peaks, c.n); e != c.want || got != "" {
			t.Errorf("P5.1: Bag(%q, %d) = %q, %v, want %v", c.peaks, c.n, got, e, c.want)
		}
	}
}

// The root of a list says how long it is: no two lengths have a root in common, even where their tops are equal.
func TestRootsOfEqualTops(t *testing.T) {
	seen := map[string]string{}
	for n := 1; n <= 1<<20; n *= 2 {
		root, e := Bag([]string{sum("x")}, n)
		if other, ok := seen[root]; ok || e != api.OK {
			t.Errorf("P5.1: Bag of a peak above %d leaves = %s, %v, as of %s", n, root, e, other)
		}
		seen[root] = strconv.Itoa(n)
	}
}
