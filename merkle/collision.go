package merkle

import (
	"sederunt/api"
	"sederunt/digest"
)

// Collision returns two different strings with the same digest, from two different leaves with proofs that lead to one root.
func Collision(n, i int, a string, p []string, b string, q []string) (string, string, api.Errno) {
	return collide(digest.Hex, n, i, a, p, b, q)
}

// collide is Collision for any function that makes digests. Nobody knows a collision of digest.Hex: the tests use a weak function.
func collide(hash func(string) string, n, i int, a string, p []string, b string, q []string) (string, string, api.Errno) {
	if !isIndex(n, i) {
		return "", "", api.ErrRange
	}
	size := span{i, i + 1, n}.partners()
	if len(p) != size || len(q) != size {
		return "", "", api.ErrArity
	}
	if !areDigests(p) || !areDigests(q) {
		return "", "", api.ErrDigest
	}
	if a == b {
		return "", "", api.ErrInvalid
	}
	return firstCollision(hash, wayUp(hash, n, i, a, p), wayUp(hash, n, i, b, q))
}

// wayUp returns the strings whose digests lead from a leaf to the root, in this order.
func wayUp(hash func(string) string, n, i int, leaf string, proof []string) []string {
	texts := []string{leafText(leaf)}
	node := hash(leafText(leaf))
	for s := (span{i, i + 1, n}); s.width > 1; s = s.above() {
		text := ""
		switch {
		case s.hasLeft():
			text = nodeText(proof[0], node)
		case s.hasRight():
			text = nodeText(node, proof[0])
		default:
			continue
		}
		proof = proof[1:]
		texts, node = append(texts, text), hash(text)
	}
	return append(texts, rootText(n, node))
}

// firstCollision returns the first two strings with equal digests on the ways from two different leaves to one root.
func firstCollision(hash func(string) string, a, b []string) (string, string, api.Errno) {
	last := len(a) - 1
	if hash(a[last]) != hash(b[last]) {
		return "", "", api.ErrDigest
	}
	// As long as the digests differ, the next strings contain them and differ as well: the first equal digests are those of different strings, at the root at the latest.
	k := 0
	for hash(a[k]) != hash(b[k]) {
		k++
	}
	return a[k], b[k], api.OK
}
