package merkle

import (
	"math/bits"
	"slices"

	"sederunt/api"
	"sederunt/digest"
)

// Peaks returns the peaks of a list.
func Peaks(l []string) []string {
	var peaks []string
	for nodes := leafNodes(l); len(nodes) > 0; nodes = nodesAbove(nodes) {
		// The nodes that are left are above equally many leaves each: one without a partner is a peak.
		if last := len(nodes) - 1; last%2 == 0 {
			peaks = append(peaks, nodes[last])
			nodes = nodes[:last]
		}
	}
	slices.Reverse(peaks)
	return peaks
}

// Append returns the peaks of a list to which a leaf is appended.
func Append(peaks []string, n int, leaf string) ([]string, api.Errno) {
	if e := checkPeaks(peaks, n); e != api.OK {
		return nil, e
	}
	node := digest.Hex(leafText(leaf))
	// A binary digit 1 is carried: its peak and the node are above equally many leaves.
	rest := len(peaks)
	for ; n%2 == 1; n /= 2 {
		rest--
		node = digest.Hex(nodeText(peaks[rest], node))
	}
	return append(slices.Clone(peaks[:rest]), node), api.OK
}

// Bag returns the root of n leaves with some peaks.
func Bag(peaks []string, n int) (string, api.Errno) {
	if e := checkPeaks(peaks, n); e != api.OK {
		return "", e
	}
	if n == 0 {
		return emptyRoot(), api.OK
	}
	last := len(peaks) - 1
	top := peaks[last]
	// The smaller trees are taken over without a partner until they meet the next greater one.
	for i := last - 1; i >= 0; i-- {
		top = digest.Hex(nodeText(peaks[i], top))
	}
	return digest.Hex(rootText(n, top)), api.OK
}

// checkPeaks returns the error of what should be the peaks of n leaves.
func checkPeaks(peaks []string, n int) api.Errno {
	if n < 0 || n > maxLeaves {
		return api.ErrRange
	}
	if len(peaks) != bits.OnesCount(uint(n)) {
		return api.ErrArity
	}
	if !areDigests(peaks) {
		return api.ErrDigest
	}
	return api.OK
}
