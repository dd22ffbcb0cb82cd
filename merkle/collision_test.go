package merkle

import (
	"math"
	"math/rand"
	"slices"
	"strconv"
	"strings"
	"testing"

	"sederunt/api"
)

// weak returns a function that makes only a few different digests.
func weak(different int) func(string) string {
	return func(s string) string {
		whole := sum(s)
		n, _ := strconv.ParseUint(whole[:8], 16, 64)
		return sum(strconv.Itoa(int(n) % different))
	}
}

// climb returns the strings whose digests lead from a leaf to the top of n leaves.
func climb(hash func(string) string, n, i int, leaf string, proof []string) []string {
	if n == 1 {
		return []string{"leaf" + leaf}
	}
	k, last := half(n), len(proof)-1
	if i < k {
		texts := climb(hash, k, i, leaf, proof[:last])
		return append(texts, "node"+hash(texts[len(texts)-1])+proof[last])
	}
	texts := climb(hash, n-k, i-k, leaf, proof[:last])
	return append(texts, "node"+proof[last]+hash(texts[len(texts)-1]))
}

// climbToRoot returns the strings whose digests lead from a leaf to the root.
func climbToRoot(hash func(string) string, n, i int, leaf string, proof []string) []string {
	texts := climb(hash, n, i, leaf, proof)
	return append(texts, "root"+strconv.Itoa(n)+" "+hash(texts[len(texts)-1]))
}

// firstPair returns where two ways have different strings with equal digests for the first time, or -1.
func firstPair(hash func(string) string, a, b []string) int {
	for k := range a {
		if a[k] != b[k] && hash(a[k]) == hash(b[k]) {
			return k
		}
	}
	return -1
}

func TestWayUp(t *testing.T) {
	for n := 1; n <= 70; n++ {
		l := letters(n)
		for i := range n {
			proof := path(sum, l, i)
			got, want := wayUp(sum, n, i, l[i], proof), climbToRoot(sum, n, i, l[i], proof)
			if !slices.Equal(got, want) || sum(got[len(got)-1]) != Root(l) {
				t.Errorf("P5.1: the way up from leaf %d of %d = %q, want %q", i, n, got, want)
			}
		}
	}
}

// forge makes up a leaf and a proof as long as a given one; like whoever looks for a collision, it keeps parts of what it knows.
func forge(source *rand.Rand, hash func(string) string, proof []string) (string, []string) {
	forged := slices.Clone(proof)
	for k := range forged {
		if source.Intn(2) == 0 {
			forged[k] = hash(strconv.Itoa(source.Int()))
		}
	}
	return "forged " + strconv.Itoa(source.Int()), forged
}

func TestForgedProofs(t *testing.T) {
	source := rand.New(rand.NewSource(5))
	places := map[int]int{}
	for _, different := range []int{1, 2, 3, 8} {
		hash := weak(different)
		for n := 1; n <= 12; n++ {
			l := letters(n)
			for i := range n {
				proof := path(hash, l, i)
				honest := wayUp(hash, n, i, l[i], proof)
				root := hash("root" + strconv.Itoa(n) + " " + top(hash, l))
				if hash(honest[len(honest)-1]) != root {
					t.Errorf("P5.2: the way up from leaf %d of %d does not lead to the root", i, n)
				}
				for range 20 {
					leaf, forged := forge(source, hash, proof)
					way := wayUp(hash, n, i, leaf, forged)
					a, b, e := collide(hash, n, i, l[i], proof, leaf, forged)
					if hash(way[len(way)-1]) != root {
						if e != api.ErrDigest || a != "" || b != "" {
							t.Errorf("P5.1: proofs that lead to different roots lead to %q, %q, %v", a, b, e)
						}
						continue
					}
					if e != api.OK || a == b || hash(a) != hash(b) {
						t.Errorf("P5.2: a forged proof of leaf %d of %d leads to %q, %q, %v", i, n, a, b, e)
					}
					k := firstPair(hash, climbToRoot(hash, n, i, l[i], proof), climbToRoot(hash, n, i, leaf, forged))
					if k < 0 || a != honest[k] || b != way[k] {
						t.Errorf("P5.1: the collision of leaf %d of %d is %q, %q, want the one at %d", i, n, a, b, k)
					}
					places[k]++
				}
			}
		}
	}
	for k := range 5 {
		if places[k] < 20 {
			t.Errorf("P5.2: only %d forged proofs have their first collision at %d", places[k], k)
		}
	}
}

func TestCollisionOfOneLeaf(t *testing.T) {
	// Only the string that makes the root collides: its digest forgets the top.
	hash := func(s string) string {
		if strings.HasPrefix(s, "root") {
			return sum("root")
		}
		return sum(s)
	}
	a, b, e := collide(hash, 1, 0, "a", nil, "b", nil)
	if a != "root1 "+sum("leafa") || b != "root1 "+sum("leafb") || e != api.OK {
		t.Errorf("P5.1: the collision of the roots is %q, %q, %v", a, b, e)
	}
	// All leaves collide; what is above them is equal.
	hash = func(s string) string { return sum(strings.TrimRight(s, "ab")) }
	a, b, e = collide(hash, 1, 0, "a", nil, "b", nil)
	if a != "leafa" || b != "leafb" || e != api.OK {
		t.Errorf("P5.1: the collision of the leaves is %q, %q, %v", a, b, e)
	}
}

func TestCollisionErrors(t *testing.T) {
	l := letters(7)
	x, p, short := sum("x"), path(sum, l, 2), path(sum, l, 6)
	bad := []string{p[0], "x", p[2]}
	forged := []string{p[0], x, p[2]}
	for _, c := range []struct {
		n, i int
		a    string
		p    []string
		b    string
		q    []string
		want api.Errno
	}{
		{0, 0, "a", nil, "b", nil, api.ErrRange}, {-1, -1, "a", nil, "b", nil, api.ErrRange}, {-1, -2, "a", nil, "a", nil, api.ErrRange},
		{7, -1, "a", p, "b", p, api.ErrRange}, {7, 7, "a", p, "b", p, api.ErrRange}, {7, math.MaxInt, "a", nil, "a", nil, api.ErrRange},
		{7, math.MinInt, "a", p, "b", bad, api.ErrRange}, {1<<20 + 1, 0, "a", p, "b", p, api.ErrRange}, {math.MaxInt, 0, "a", p, "b", p, api.ErrRange},
		{math.MinInt, math.MinInt, "a", p, "a", p, api.ErrRange}, {1<<20 + 1, 1 << 20, "a", []string{x}, "b", []string{x}, api.ErrRange},
		{7, 2, "a", nil, "b", p, api.ErrArity}, {7, 2, "a", p, "b", nil, api.ErrArity}, {7, 2, "a", short, "b", short, api.ErrArity},
		{7, 6, "a", p, "b", p, api.ErrArity}, {7, 6, "a", short, "b", p, api.ErrArity}, {7, 2, "a", bad, "a", append(p[:3:3], x), api.ErrArity},
		{1, 0, "a", []string{"y"}, "a", nil, api.ErrArity}, {1, 0, "a", nil, "a", []string{x}, api.ErrArity}, {1 << 20, 5, "a", p, "a", p, api.ErrArity},
		{7, 2, "a", bad, "b", p, api.ErrDigest}, {7, 2, "a", p, "b", bad, api.ErrDigest}, {7, 2, "a", bad, "a", bad, api.ErrDigest},
		{7, 2, "a", p, "a", bad, api.ErrDigest}, {7, 2, "a", p, "a", []string{p[0], p[1], strings.ToUpper(p[2])}, api.ErrDigest},
		{7, 2, "a", p, "a", p, api.ErrInvalid}, {7, 2, l[2], p, l[2], forged, api.ErrInvalid}, {7, 6, "", short, "", short, api.ErrInvalid},
		{1, 0, "a", nil, "a", []string{}, api.ErrInvalid}, {1 << 20, 5, "", equalNodes()[:20], "", equalNodes()[:20], api.ErrInvalid},
		{7, 2, "a", p, "b", p, api.ErrDigest}, {7, 2, l[2], p, "b", p, api.ErrDigest}, {7, 2, l[2], p, l[3], path(sum, l, 3), api.ErrDigest},
		{7, 2, l[2], p, "b", forged, api.ErrDigest}, {1, 0, "a", nil, "b", nil, api.ErrDigest}, {1 << 20, 5, "", equalNodes()[:20], "b", equalNodes()[:20], api.ErrDigest},
	} {
		if a, b, e := Collision(c.n, c.i, c.a, c.p, c.b, c.q); a != "" || b != "" || e != c.want {
			t.Errorf("P5.1: Collision(%d, %d, %q, %q, %q, %q) = %q, %q, %v, want %v", c.n, c.i, c.a, c.p, c.b, c.q, a, b, e, c.want)
		}
	}
}

func TestCollisionRefusesWhatIsNoDigest(t *testing.T) {
	good := []string{sum("x")}
	for _, s := range notDigests() {
		for _, pair := range [][2]string{{"a", "a"}, {"a", "b"}} {
			_, _, first := Collision(2, 0, pair[0], []string{s}, pair[1], good)
			_, _, second := Collision(2, 1, pair[0], good, pair[1], []string{s})
			if first != api.ErrDigest || second != api.ErrDigest {
				t.Errorf("P5.1: Collision with %q in a proof: %v, %v", s, first, second)
			}
		}
	}
}
