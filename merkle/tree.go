package merkle

import (
	"strconv"
	"strings"

	"sederunt/digest"
)

const (
	// digestSize is the number of digits of a digest.
	digestSize = 64
	// hexDigits are the digits of a digest.
	hexDigits = "0123456789abcdef"
)

// leafText returns the string whose digest is the node of a leaf.
func leafText(s string) string { return "leaf" + s }

// nodeText returns the string whose digest is the node above two nodes.
func nodeText(left, right string) string { return "node" + left + right }

// rootText returns the string whose digest is the root above a top.
func rootText(n int, top string) string { return "root" + strconv.Itoa(n) + " " + top }

// emptyRoot returns the root of the empty list.
func emptyRoot() string { return digest.Hex(rootText(0, digest.Hex("empty"))) }

// leafNodes returns the level 0 of a list.
func leafNodes(l []string) []string {
	nodes := make([]string, len(l))
	for i, s := range l {
		nodes[i] = digest.Hex(leafText(s))
	}
	return nodes
}

// nodesAbove returns the level above a level, or above a part of it that begins at an even place.
func nodesAbove(nodes []string) []string {
	above := make([]string, 0, len(nodes)/2+1)
	for i := 1; i < len(nodes); i += 2 {
		above = append(above, digest.Hex(nodeText(nodes[i-1], nodes[i])))
	}
	if len(nodes)%2 == 1 {
		above = append(above, nodes[len(nodes)-1])
	}
	return above
}

// areDigests reports whether all strings are digests.
func areDigests(l []string) bool {
	for _, s := range l {
		if len(s) != digestSize || strings.Trim(s, hexDigits) != "" {
			return false
		}
	}
	return true
}

// span is a range of nodes of a level, from one place up to another one, which does not belong to it; width is the number of nodes of the level.
type span struct{ from, to, width int }

// hasLeft reports whether the first node of the range has a partner in front of the range.
func (s span) hasLeft() bool { return s.from%2 == 1 }

// hasRight reports whether the last node of the range has a partner behind the range.
func (s span) hasRight() bool { return s.to%2 == 1 && s.to < s.width }

// above returns the range of the nodes above a range.
func (s span) above() span { return span{s.from / 2, (s.to + 1) / 2, (s.width + 1) / 2} }

// partners returns the number of nodes in the proof of a range of leaves.
func (s span) partners() int {
	count := 0
	for ; s.width > 1; s = s.above() {
		if s.hasLeft() {
			count++
		}
		if s.hasRight() {
			count++
		}
	}
	return count
}
