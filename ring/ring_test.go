package ring_test

import (
	"math"
	"slices"
	"strings"
	"testing"

	"wigwag/api"
	"wigwag/ring"
)

const top = math.MaxUint64

// places lie at both ends of the circle, in its middle and between.
var places = []api.Id{0, 1, 2, 3, 5, 7, 1000, 1 << 32, 1<<63 - 1, 1 << 63, 1<<63 + 1, top - 2, top - 1, top}

// behind: is x met on the way from a on to b, told without Dist?
func behind(x, a, b api.Id) bool {
	switch {
	case a == b:
		return true
	case a < b:
		return a < x && x <= b
	}
	return x > a || x <= b
}

// P1.1
func TestDist(t *testing.T) {
	for _, c := range []struct {
		from, to api.Id
		want     uint64
	}{
		{3, 5, 2}, {5, 3, top - 1}, {5, 5, 0}, {0, 0, 0}, {top, top, 0},
		{0, top, top}, {top, 0, 1}, {top, 3, 4}, {1, 0, top}, {0, 1 << 63, 1 << 63}, {1 << 63, 0, 1 << 63},
	} {
		if got := ring.Dist(c.from, c.to); got != c.want {
			t.Errorf("Dist(%d, %d) = %d, not %d", c.from, c.to, got, c.want)
		}
	}
	for _, a := range places {
		for _, b := range places {
			if a+api.Id(ring.Dist(a, b)) != b {
				t.Errorf("Dist(%d, %d) doesn't lead there", a, b)
			}
		}
	}
}

// P1.1
func TestInAndWithinExamples(t *testing.T) {
	for _, c := range []struct {
		x, a, b    api.Id
		in, within bool
	}{
		{3, 5, 3, true, false}, {4, 5, 3, false, false}, {7, 7, 7, true, false}, {8, 7, 7, true, true},
		{4, 3, 5, true, true}, {5, 3, 5, true, false}, {3, 3, 5, false, false}, {6, 3, 5, false, false},
		{0, top, 0, true, false}, {top, top, 0, false, false}, {5, top, 0, false, false},
		{0, top, 1, true, true}, {top, top - 1, 0, true, true}, {0, 0, top, false, false},
		{top, 0, top, true, false}, {1, 0, top, true, true}, {0, 0, 0, true, false}, {top, 0, 0, true, true},
		{top, top, top, true, false}, {0, top, top, true, true},
	} {
		if got := ring.In(c.x, c.a, c.b); got != c.in {
			t.Errorf("In(%d, %d, %d) = %v", c.x, c.a, c.b, got)
		}
		if got := ring.Within(c.x, c.a, c.b); got != c.within {
			t.Errorf("Within(%d, %d, %d) = %v", c.x, c.a, c.b, got)
		}
	}
}

// P1.1
func TestInAndWithinOfAllPlaces(t *testing.T) {
	for _, a := range places {
		for _, b := range places {
			for _, x := range places {
				if got := ring.In(x, a, b); got != behind(x, a, b) {
					t.Errorf("In(%d, %d, %d) = %v", x, a, b, got)
				}
				if got := ring.Within(x, a, b); got != (behind(x, a, b) && x != b) {
					t.Errorf("Within(%d, %d, %d) = %v", x, a, b, got)
				}
			}
		}
	}
}

// P1.1
func TestStart(t *testing.T) {
	for n := range 64 {
		if got := ring.Start(0, n); got != api.Id(math.Ldexp(1, n)) {
			t.Errorf("Start(0, %d) = %d", n, got)
		}
		if got := ring.Start(top, n); got != api.Id(math.Ldexp(1, n))-1 {
			t.Errorf("Start(top, %d) = %d", n, got)
		}
	}
	if got := ring.Start(5, 3); got != 13 {
		t.Errorf("Start(5, 3) = %d", got)
	}
	if got := ring.Start(1<<63, 63); got != 0 {
		t.Errorf("Start(2^63, 63) = %d", got)
	}
	for _, n := range []int{-1, -64, 64, 65, 1000, math.MinInt, math.MaxInt} {
		for _, x := range places {
			if got := ring.Start(x, n); got != x {
				t.Errorf("Start(%d, %d) = %d", x, n, got)
			}
		}
	}
}

// P1.2: the places were worked out by another program from the document's rule.
func TestHash(t *testing.T) {
	for _, c := range []struct {
		s    string
		want api.Id
	}{
		{"", 0x90f8749b0fb13233},
		{"a", 0xc6b923bbf03cbc93},
		{"b", 0x1f12e621f672ed50},
		{"ab", 0x16a42859ba0f5c20},
		{"ba", 0x644f73227a126330},
		{"price/3/5", 0x5155021a0201336},
		{"\x00", 0xec23c8c0a2df9655},
		{"\x00\x00", 0x9742f7d4ea18e625},
		{"\xff\x80\x7f", 0xbaede39d4114eb08},
		{"Gr\xc3\xb6\xc3\x9fe", 0x64b31e17b310e3a},
		{strings.Repeat("x", 1000), 0xcc0f4bcd28c483c9},
	} {
		if got := ring.Hash(c.s); got != c.want {
			t.Errorf("Hash(%.20q) = %#x, not %#x", c.s, got, c.want)
		}
	}
}

// P1.3
func TestSorted(t *testing.T) {
	for _, c := range []struct{ l, want []api.Id }{
		{nil, nil}, {[]api.Id{}, nil}, {[]api.Id{7}, []api.Id{7}},
		{[]api.Id{9, 3, 9}, []api.Id{3, 9}}, {[]api.Id{3, 9}, []api.Id{3, 9}},
		{[]api.Id{4, 4, 4, 4}, []api.Id{4}},
		{[]api.Id{top, 0, 1 << 63, 0, top}, []api.Id{0, 1 << 63, top}},
		{[]api.Id{5, 4, 3, 2, 1, 0}, []api.Id{0, 1, 2, 3, 4, 5}},
	} {
		if got := ring.Sorted(c.l); !slices.Equal(got, c.want) {
			t.Errorf("Sorted(%v) = %v", c.l, got)
		}
	}
}

// K3: neither the list nor the spare room behind it is changed, and the answer is new memory.
func TestSortedLeavesItsList(t *testing.T) {
	for _, l := range [][]api.Id{{9, 3, 9, 8, 1}, {1, 3, 9, 8, 1}} {
		room := slices.Clone(l)
		got := ring.Sorted(room[:3])
		if !slices.Equal(room, l) {
			t.Errorf("Sorted changed %v to %v", l, room)
		}
		for i := range got {
			got[i] = 77
		}
		_ = append(got, 77, 77)
		if !slices.Equal(room, l) {
			t.Errorf("Sorted's answer shares the memory of %v", l)
		}
		again := ring.Sorted(room[:3])
		if slices.Contains(again, 77) {
			t.Errorf("two answers share memory: %v", again)
		}
	}
}

// P1.3
func TestOwner(t *testing.T) {
	for _, c := range []struct {
		l    []api.Id
		x    api.Id
		want int
	}{
		{nil, 0, -1}, {nil, top, -1}, {[]api.Id{}, 5, -1},
		{[]api.Id{3, 9}, 10, 0}, {[]api.Id{3, 9}, 3, 0}, {[]api.Id{3, 9}, 4, 1}, {[]api.Id{3, 9}, 9, 1},
		{[]api.Id{3, 9}, 0, 0}, {[]api.Id{3, 9}, top, 0},
		{[]api.Id{0, top}, 0, 0}, {[]api.Id{0, top}, 1, 1}, {[]api.Id{0, top}, top, 1},
		{[]api.Id{5}, 5, 0}, {[]api.Id{5}, 6, 0}, {[]api.Id{5}, 4, 0},
		{[]api.Id{3, 3, 9, 9}, 3, 0}, {[]api.Id{3, 3, 9, 9}, 4, 2}, {[]api.Id{3, 3, 9, 9}, 10, 0},
		// of a list that doesn't rise the first one that isn't below x, too
		{[]api.Id{9, 3}, 1, 0}, {[]api.Id{9, 3}, 4, 0}, {[]api.Id{3, 1, 8, 2, 9}, 7, 2}, {[]api.Id{9, 3}, 10, 0},
		{[]api.Id{1, 9, 2, 3, 4, 5}, 4, 1},
	} {
		if got := ring.Owner(c.l, c.x); got != c.want {
			t.Errorf("Owner(%v, %d) = %d, not %d", c.l, c.x, got, c.want)
		}
	}
}

// P1.3: of all lists of some places, and all places, the owner is the one to which it is least far.
func TestOwnerIsLeastFar(t *testing.T) {
	some := []api.Id{0, 1, 5, 1 << 63, top - 1, top}
	for set := 1; set < 1<<len(some); set++ {
		var l []api.Id
		for i, id := range some {
			if set>>i&1 == 1 {
				l = append(l, id)
			}
		}
		kept := slices.Clone(l)
		for _, x := range places {
			got := ring.Owner(l, x)
			for i, id := range l {
				if ring.Dist(x, id) < ring.Dist(x, l[got]) {
					t.Errorf("Owner(%v, %d) = %d, but %d is less far", l, x, got, i)
				}
			}
		}
		if !slices.Equal(l, kept) {
			t.Errorf("Owner changed %v to %v", kept, l)
		}
	}
}
