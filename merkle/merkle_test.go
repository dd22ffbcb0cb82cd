package merkle

import (
	"crypto/sha256"
	"encoding/hex"
	"math"
	"math/rand"
	"slices"
	"strconv"
	"strings"
	"testing"

	"sederunt/api"
)

// sum is digest.Hex, computed by the library of Go.
func sum(s string) string {
	b := sha256.Sum256([]byte(s))
	return hex.EncodeToString(b[:])
}

// half returns the greatest power of two that is less than n.
func half(n int) int {
	k := 1
	for 2*k < n {
		k *= 2
	}
	return k
}

// top returns the top of the tree of a list that is not empty. Taking over the last node without a partner makes the first subtree a full one.
func top(hash func(string) string, l []string) string {
	if len(l) == 1 {
		return hash("leaf" + l[0])
	}
	k := half(len(l))
	return hash("node" + top(hash, l[:k]) + top(hash, l[k:]))
}

// path returns the proof of a leaf.
func path(hash func(string) string, l []string, i int) []string {
	if len(l) == 1 {
		return nil
	}
	k := half(len(l))
	if i < k {
		return append(path(hash, l[:k], i), top(hash, l[k:]))
	}
	return append(path(hash, l[k:], i-k), top(hash, l[:k]))
}

// levels returns all levels of a tree, as the chapter words them.
func levels(l []string) [][]string {
	var level []string
	for _, s := range l {
		level = append(level, sum("leaf"+s))
	}
	all := [][]string{level}
	for len(level) > 1 {
		var next []string
		for i, node := range level {
			switch {
			case i%2 == 1:
				next = append(next, sum("node"+level[i-1]+node))
			case i+1 == len(level):
				next = append(next, node)
			}
		}
		level = next
		all = append(all, level)
	}
	return all
}

// rangePath returns the proof of the leaves from i to k - 1, as the chapter words it.
func rangePath(l []string, i, k int) []string {
	inside := map[int]bool{}
	for j := i; j < k; j++ {
		inside[j] = true
	}
	var proof []string
	for _, level := range levels(l) {
		above := map[int]bool{}
		for j, node := range level {
			above[j/2] = above[j/2] || inside[j]
			if inside[j^1] && !inside[j] {
				proof = append(proof, node)
			}
		}
		inside = above
	}
	return proof
}

// letters returns n different leaves.
func letters(n int) []string {
	l := make([]string, n)
	for i := range l {
		l[i] = "leaf " + strconv.Itoa(i)
	}
	return l
}

// leafLists returns lists of n leaves of several kinds.
func leafLists(n int) [][]string {
	source := rand.New(rand.NewSource(int64(n)))
	wild := make([]string, n)
	for i := range wild {
		b := make([]byte, source.Intn(4)*source.Intn(40))
		source.Read(b)
		wild[i] = string(b)
	}
	return [][]string{letters(n), make([]string, n), wild}
}

func TestRootExamples(t *testing.T) {
	a, b, c := sum("leafa"), sum("leafb"), sum("leafc")
	for _, x := range []struct {
		l    []string
		want string
	}{
		{nil, sum("root0 " + sum("empty"))}, {[]string{}, sum("root0 " + sum("empty"))},
		{[]string{""}, sum("root1 " + sum("leaf"))}, {[]string{"a"}, sum("root1 " + a)},
		{[]string{"a", "b"}, sum("root2 " + sum("node"+a+b))}, {[]string{"b", "a"}, sum("root2 " + sum("node"+b+a))},
		{[]string{"a", "b", "c"}, sum("root3 " + sum("node"+sum("node"+a+b)+c))},
		{[]string{"a", "b", "c", "c"}, sum("root4 " + sum("node"+sum("node"+a+b)+sum("node"+c+c)))},
		{[]string{"a", "b", "c", "a", "b"}, sum("root5 " + sum("node"+sum("node"+sum("node"+a+b)+sum("node"+c+a))+b))},
		{[]string{"a", "b", "c", "a", "b", "c"}, sum("root6 " + sum("node"+sum("node"+sum("node"+a+b)+sum("node"+c+a))+sum("node"+b+c)))},
	} {
		if got := Root(x.l); got != x.want {
			t.Errorf("P5.1: Root(%q) = %s, want %s", x.l, got, x.want)
		}
	}
	if got := Root(nil); got != "99aa90631e280c67641a3e9663bc2a20dba5706a85238c23ea11c0e1d34f846b" {
		t.Errorf("P5.1: Root(nil) = %s", got)
	}
	if got := Root([]string{"a", "b", "c"}); got != "f3313c0c5fcc762fbcc5dd797ede3d33802458edce5a53c0ebc394522d3849ea" {
		t.Errorf("P5.1: Root of three leaves = %s", got)
	}
}

func TestRoot(t *testing.T) {
	for n := 1; n <= 140; n++ {
		for _, l := range leafLists(n) {
			want := sum("root" + strconv.Itoa(n) + " " + top(sum, l))
			if got := Root(l); got != want {
				t.Errorf("P5.1: Root of %d leaves = %s, want %s", n, got, want)
			}
			all := levels(l)
			if last := all[len(all)-1]; len(last) != 1 || last[0] != top(sum, l) {
				t.Errorf("P5.1: the levels of %d leaves end with %s", n, last)
			}
		}
	}
}

func TestProveExamples(t *testing.T) {
	l := []string{"a", "b", "c"}
	first := sum("node" + sum("leafa") + sum("leafb"))
	for _, x := range []struct {
		i    int
		want []string
	}{
		{0, []string{sum("leafb"), sum("leafc")}}, {1, []string{sum("leafa"), sum("leafc")}}, {2, []string{first}},
	} {
		if got, e := Prove(l, x.i); e != api.OK || !slices.Equal(got, x.want) {
			t.Errorf("P5.1: Prove(%q, %d) = %s, %v, want %s", l, x.i, got, e, x.want)
		}
	}
	if got, e := Prove([]string{"a"}, 0); e != api.OK || len(got) != 0 {
		t.Errorf("P5.1: Prove of a single leaf = %s, %v", got, e)
	}
	four := []string{"a", "b", "c", "d"}
	if got, e := ProveRange(four, 1, 3); e != api.OK || !slices.Equal(got, []string{sum("leafa"), sum("leafd")}) {
		t.Errorf("P5.1: ProveRange(%q, 1, 3) = %s, %v", four, got, e)
	}
	if got, e := ProveRange(four, 0, 4); e != api.OK || len(got) != 0 {
		t.Errorf("P5.1: ProveRange(%q, 0, 4) = %s, %v", four, got, e)
	}
	if got, e := ProveRange(four, 2, 4); e != api.OK || !slices.Equal(got, []string{first}) {
		t.Errorf("P5.1: ProveRange(%q, 2, 4) = %s, %v", four, got, e)
	}
}

func TestProve(t *testing.T) {
	for n := 1; n <= 45; n++ {
		for _, l := range leafLists(n) {
			root := Root(l)
			for i := range n {
				got, e := Prove(l, i)
				if want := path(sum, l, i); e != api.OK || !slices.Equal(got, want) {
					t.Errorf("P5.1: Prove of leaf %d of %d = %s, %v, want %s", i, n, got, e, want)
				}
				if !Verify(root, n, i, l[i], got) {
					t.Errorf("P5.2: the proof of leaf %d of %d is refused", i, n)
				}
			}
		}
	}
}

func TestProveRange(t *testing.T) {
	for n := 1; n <= 33; n++ {
		for _, l := range leafLists(n)[:2] {
			root := Root(l)
			for i := range n {
				for k := i + 1; k <= n; k++ {
					got, e := ProveRange(l, i, k)
					if want := rangePath(l, i, k); e != api.OK || !slices.Equal(got, want) {
						t.Errorf("P5.1: ProveRange of %d to %d of %d = %s, %v, want %s", i, k, n, got, e, want)
					}
					if !VerifyRange(root, n, i, l[i:k], got) {
						t.Errorf("P5.2: the proof of the leaves %d to %d of %d is refused", i, k, n)
					}
				}
			}
		}
	}
}

func TestProveErrors(t *testing.T) {
	for n := range 6 {
		l := letters(n)
		for _, i := range []int{-1, -2, n, n + 1, 1 << 40, math.MinInt, math.MaxInt} {
			if proof, e := Prove(l, i); e != api.ErrRange || len(proof) != 0 {
				t.Errorf("P5.1: Prove of leaf %d of %d = %s, %v", i, n, proof, e)
			}
		}
		for i := -2; i <= n+2; i++ {
			for k := -2; k <= n+2; k++ {
				want := api.ErrRange
				if 0 <= i && i < k && k <= n {
					want = api.OK
				}
				if proof, e := ProveRange(l, i, k); e != want || e != api.OK && len(proof) != 0 {
					t.Errorf("P5.1: ProveRange of %d to %d of %d = %s, %v", i, k, n, proof, e)
				}
			}
		}
		for _, x := range [][2]int{{math.MinInt, math.MaxInt}, {0, math.MaxInt}, {math.MinInt, 1}, {math.MaxInt, math.MinInt}, {-1, 1}, {0, math.MinInt}} {
			if proof, e := ProveRange(l, x[0], x[1]); e != api.ErrRange || len(proof) != 0 {
				t.Errorf("P5.1: ProveRange of %d to %d of %d = %s, %v", x[0], x[1], n, proof, e)
			}
		}
	}
}

// notDigests returns strings that are no digests.
func notDigests() []string {
	good := sum("good")
	l := []string{"", good[1:], good + "0", good + good, strings.ToUpper(good), strings.Repeat(" ", 64), strings.Repeat("é", 32), strings.Repeat("\x00", 64)}
	for _, place := range []int{0, 1, 31, 62, 63} {
		for _, wrong := range []string{"g", "A", "F", "/", ":", "`", "\xff", " ", "\n", "\x00"} {
			l = append(l, good[:place]+wrong+good[place+1:])
		}
	}
	return l
}

// wrongProofs returns strings that are not a proof of a leaf for which there is a proof.
func wrongProofs(proof []string) [][]string {
	l := [][]string{append(slices.Clone(proof), sum("x"))}
	if len(proof) == 0 {
		return l
	}
	last := len(proof) - 1
	l = append(l, nil, proof[1:], proof[:last], append([]string{sum("x")}, proof...), append(slices.Clone(proof), proof[last]))
	for i := range proof {
		for _, s := range []string{sum("x"), "", strings.ToUpper(proof[i]), proof[i] + "0", proof[i][1:]} {
			changed := slices.Clone(proof)
			changed[i] = s
			l = append(l, changed)
		}
	}
	if last > 0 {
		turned := slices.Clone(proof)
		slices.Reverse(turned)
		l = append(l, turned)
	}
	return l
}

func TestVerifyRefuses(t *testing.T) {
	for n := 1; n <= 20; n++ {
		l := letters(n)
		root := Root(l)
		for i := range n {
			proof, _ := Prove(l, i)
			for _, wrong := range wrongProofs(proof) {
				if Verify(root, n, i, l[i], wrong) {
					t.Errorf("P5.1: leaf %d of %d is accepted with %q", i, n, wrong)
				}
			}
			for _, leaf := range []string{"", "x", l[i] + " ", l[i][1:], "leaf" + l[i], sum("leaf" + l[i])} {
				if Verify(root, n, i, leaf, proof) {
					t.Errorf("P5.2: %q is accepted as leaf %d of %d", leaf, i, n)
				}
			}
			for other := -3; other <= 2*n+2; other++ {
				if other != i && Verify(root, n, other, l[i], proof) {
					t.Errorf("P5.2: leaf %d of %d is accepted at %d", i, n, other)
				}
				if other != n && Verify(root, other, i, l[i], proof) {
					t.Errorf("P5.1: leaf %d of %d is accepted for %d leaves", i, n, other)
				}
			}
			for _, r := range []string{"", root + " ", root[1:], strings.ToUpper(root), sum(root), top(sum, l), Root(l[:n-1])} {
				if Verify(r, n, i, l[i], proof) {
					t.Errorf("P5.1: leaf %d of %d is accepted for the root %q", i, n, r)
				}
			}
		}
	}
}

// Nodes, tops and roots are made of different words: none of them can stand for a leaf.
func TestNodesAreNoLeaves(t *testing.T) {
	l := letters(4)
	all := levels(l)
	for _, leaf := range []string{all[1][0], all[0][0] + all[0][1], "node" + all[0][0] + all[0][1]} {
		for _, root := range []string{Root(l), sum("root2 " + all[2][0])} {
			if Verify(root, 2, 0, leaf, []string{all[1][1]}) {
				t.Errorf("P5.2: the node %q is accepted as a leaf", leaf)
			}
		}
	}
	if Verify(Root(l), 2, 0, l[0], all[0][1:2]) || Verify(Root(l), 1, 0, all[2][0], nil) || Verify(sum("leafa"), 1, 0, "a", nil) {
		t.Errorf("P5.2: a shorter tree is accepted for the root of a longer one")
	}
}

func TestVerifyOfWhatIsNoNumber(t *testing.T) {
	for _, n := range []int{math.MinInt, -1, 0, 1 << 21, math.MaxInt} {
		for _, i := range []int{math.MinInt, -1, 0, 1, math.MaxInt} {
			for _, root := range []string{Root(nil), sum("root" + strconv.Itoa(n) + " " + sum("leafa")), ""} {
				if Verify(root, n, i, "a", nil) || VerifyRange(root, n, i, []string{"a"}, nil) || VerifyRange(root, n, i, nil, nil) {
					t.Errorf("P5.1: leaf %d of %d is accepted for the root %q", i, n, root)
				}
			}
		}
	}
	for _, i := range []int{math.MinInt, math.MinInt + 1, -1, 3, math.MaxInt - 1, math.MaxInt} {
		l := letters(3)
		if Verify(Root(l), 3, i, l[0], path(sum, l, 0)) || VerifyRange(Root(l), 3, i, l, nil) {
			t.Errorf("P5.1: leaf %d of 3 is accepted", i)
		}
	}
}

func TestVerifyRefusesWhatIsNoDigest(t *testing.T) {
	for _, s := range notDigests() {
		inner := sum("node" + sum("leafa") + s)
		if Verify(sum("root2 "+inner), 2, 0, "a", []string{s}) || VerifyRange(sum("root2 "+inner), 2, 0, []string{"a"}, []string{s}) {
			t.Errorf("P5.1: a proof with %q is accepted", s)
		}
		outer := sum("node" + s + sum("node"+sum("leafa")+sum("leafb")))
		if VerifyRange(sum("root4 "+outer), 4, 2, []string{"a", "b"}, []string{s}) {
			t.Errorf("P5.1: a proof of a range with %q is accepted", s)
		}
	}
	if s := strings.Repeat("0123456789abcdef", 4); !Verify(sum("root2 "+sum("node"+sum("leafa")+s)), 2, 0, "a", []string{s}) {
		t.Errorf("P5.1: a proof with %q is refused", s)
	}
}

// wrongLeaves returns lists of leaves that are not a range of different leaves.
func wrongLeaves(leaves []string) [][]string {
	l := [][]string{nil, leaves[1:], leaves[:len(leaves)-1], append(slices.Clone(leaves), "x"), append([]string{"x"}, leaves...)}
	for i := range leaves {
		changed := slices.Clone(leaves)
		changed[i] += "x"
		l = append(l, changed)
	}
	if len(leaves) > 1 {
		turned := slices.Clone(leaves)
		slices.Reverse(turned)
		l = append(l, turned)
	}
	return l
}

func TestVerifyRangeRefuses(t *testing.T) {
	for n := 1; n <= 12; n++ {
		l := letters(n)
		root := Root(l)
		for i := range n {
			for k := i + 1; k <= n; k++ {
				proof, _ := ProveRange(l, i, k)
				for _, wrong := range wrongProofs(proof) {
					if VerifyRange(root, n, i, l[i:k], wrong) {
						t.Errorf("P5.1: the leaves %d to %d of %d are accepted with %q", i, k, n, wrong)
					}
				}
				for _, wrong := range wrongLeaves(l[i:k]) {
					if VerifyRange(root, n, i, wrong, proof) {
						t.Errorf("P5.2: %q is accepted as the leaves %d to %d of %d", wrong, i, k, n)
					}
				}
				for other := -2; other <= n+3; other++ {
					if other != i && VerifyRange(root, n, other, l[i:k], proof) || other != n && VerifyRange(root, other, i, l[i:k], proof) {
						t.Errorf("P5.1: the leaves %d to %d of %d are accepted with %d", i, k, n, other)
					}
				}
				if VerifyRange(top(sum, l), n, i, l[i:k], proof) || VerifyRange("", n, i, l[i:k], proof) {
					t.Errorf("P5.1: the leaves %d to %d of %d are accepted for a wrong root", i, k, n)
				}
			}
		}
	}
}

// equalNodes returns the nodes above 2^0 to 2^20 empty leaves.
func equalNodes() []string {
	l := []string{sum("leaf")}
	for i := range 20 {
		l = append(l, sum("node"+l[i]+l[i]))
	}
	return l
}

func TestMostLeaves(t *testing.T) {
	const most = 1 << 20
	nodes := equalNodes()
	root, proof := sum("root1048576 "+nodes[20]), nodes[:20]
	for _, i := range []int{0, 1, 777777, most/2 - 1, most / 2, most - 1} {
		if !Verify(root, most, i, "", proof) || !VerifyRange(root, most, i, []string{""}, proof) {
			t.Errorf("P5.1: leaf %d of 2^20 is refused", i)
		}
	}
	if Verify(root, most, -1, "", proof) || Verify(root, most, most, "", proof) || VerifyRange(root, most, most-1, []string{"", ""}, proof) {
		t.Errorf("P5.1: a leaf that is not one of 2^20 is accepted")
	}
	if last := make([]string, 256); !VerifyRange(root, most, most-256, last, nodes[8:20]) {
		t.Errorf("P5.1: the last leaves of 2^20 are refused")
	}
	longer := sum("root1048577 " + sum("node"+nodes[20]+nodes[0]))
	if Verify(longer, most+1, most, "", nodes[20:]) || Verify(longer, most+1, 0, "", append(slices.Clone(proof), nodes[0])) {
		t.Errorf("P5.1: a leaf of more than 2^20 is accepted")
	}
	// Only checkers have a limit.
	l := make([]string, most+1)
	if got := Root(l); got != longer {
		t.Errorf("P5.1: Root of 2^20 + 1 leaves = %s, want %s", got, longer)
	}
	if got, e := Prove(l, most); e != api.OK || !slices.Equal(got, nodes[20:]) {
		t.Errorf("P5.1: Prove of the last of 2^20 + 1 leaves = %s, %v, want %s", got, e, nodes[20:])
	}
}

func TestNothingIsChangedOrShared(t *testing.T) {
	l := letters(11)
	proof, _ := Prove(l, 5)
	ranged, _ := ProveRange(l, 3, 7)
	peaks := Peaks(l)
	roomy := append(make([]string, 0, 40), peaks...)
	want := slices.Clone(peaks)
	first, _ := Append(roomy, 11, "x")
	second, _ := Append(roomy, 11, "y")
	if !slices.Equal(roomy[:4][:3], want) || slices.Equal(first, second) || roomy[:4][3] != "" {
		t.Errorf("P5.1: Append changes its argument %s to %s", want, roomy[:4])
	}
	longer, _ := Append(slices.Clone(Peaks(l[:10])), 10, "x")
	longer[0] = "spoiled"
	wantProof, wantRanged := slices.Clone(proof), slices.Clone(ranged)
	Verify(Root(l), 11, 5, l[5], proof)
	VerifyRange(Root(l), 11, 3, l[3:7], ranged)
	Bag(peaks, 11)
	if !slices.Equal(l, letters(11)) || !slices.Equal(proof, wantProof) || !slices.Equal(ranged, wantRanged) || !slices.Equal(peaks, want) {
		t.Errorf("P5.1: an argument was changed")
	}
	proof[0], ranged[0], peaks[0] = "spoiled", "spoiled", "spoiled"
	proof, _ = Prove(l, 5)
	ranged, _ = ProveRange(l, 3, 7)
	if !slices.Equal(proof, wantProof) || !slices.Equal(ranged, wantRanged) || !slices.Equal(Peaks(l), want) {
		t.Errorf("P5.1: two results share memory")
	}
}
