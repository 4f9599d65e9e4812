package route

import "slices"

// Set gives an address any fingers, for the tests: Fix never makes some of those that the chapter speaks of.
func (f *Fingers) Set(n int, l []int) {
	f.lists[n] = slices.Clone(l)
}
