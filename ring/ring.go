// Package ring is layer 1: see shared/doc/01-ring.md.
package ring

import (
	"slices"

	"wigwag/api"
)

// Hash's numbers: what it begins with, what each byte and what the end is multiplied by.
const (
	hashBegin = 0x9e3779b97f4a7c15
	hashByte  = 0xff51afd7ed558ccd
	hashEnd   = 0xc4ceb9fe1a85ec53
)

// Dist: how far it is from one place on to another one.
func Dist(from, to api.Id) uint64 {
	return uint64(to - from)
}

// In: does a place lie behind a, up to b?
func In(x, a, b api.Id) bool {
	return a == b || x != a && Dist(a, x) <= Dist(a, b)
}

// Within: does it lie behind a, and ahead of b?
func Within(x, a, b api.Id) bool {
	return x != a && (a == b || Dist(a, x) < Dist(a, b))
}

// Start: where finger number n of a place begins.
func Start(x api.Id, n int) api.Id {
	if n < 0 || n > 63 {
		return x
	}
	return x + 1<<n
}

// Hash: the place of a text.
func Hash(s string) api.Id {
	h := hashBegin ^ uint64(len(s))
	for i := range len(s) {
		h = (h ^ uint64(s[i])) * hashByte
		h ^= h >> 32
	}
	h *= hashEnd
	return api.Id(h ^ h>>29)
}

// Sorted: places, rising, each once.
func Sorted(l []api.Id) []api.Id {
	own := slices.Clone(l)
	slices.Sort(own)
	return slices.Compact(own)
}

// Owner: of rising places the first one from a place on, round the circle; which it is, -1 if there is none.
func Owner(l []api.Id, x api.Id) int {
	if len(l) == 0 {
		return -1
	}
	// One by one, so that the first one is told of a list that doesn't rise, too.
	for i, id := range l {
		if id >= x {
			return i
		}
	}
	return 0
}
