package peer_test

import (
	"math"
	"math/rand"
	"slices"
	"testing"

	"wigwag/api"
	"wigwag/peer"
)

const top = math.MaxUint64

// member is what is known of an address.
type member struct {
	id    api.Id
	lives bool
}

// known is some addresses. It isn't to be asked for None, nor for the place of one of which nothing is told.
type known struct {
	t       *testing.T
	members map[int]member
}

func (k known) Lives(n int) bool {
	if n == peer.None {
		k.t.Error("None was asked for")
	}
	return k.members[n].lives
}

func (k known) Id(n int) api.Id {
	m, ok := k.members[n]
	if !ok {
		k.t.Errorf("the place of %d was asked for", n)
	}
	return m.id
}

// some: 0, 2, 3, 4, 40 and -7 live, 1, 5 and -8 don't; 4 lies where 2 lies, 5 where 3 does.
func some(t *testing.T) known {
	return known{t, map[int]member{
		0: {10, true}, 1: {20, false}, 2: {30, true}, 3: {40, true}, 4: {30, true}, 5: {40, false},
		40: {top, true}, -7: {25, true}, -8: {27, false},
	}}
}

// within: is x met behind a and ahead of b, step by step round the circle?
func within(x, a, b api.Id) bool {
	switch {
	case x == a || x == b:
		return false
	case a < b:
		return a < x && x < b
	}
	return a < x || x < b
}

// P9.1
func TestHead(t *testing.T) {
	for i, c := range []struct {
		succ []int
		want int
	}{
		{nil, peer.None}, {[]int{}, peer.None},
		{[]int{2}, 2}, {[]int{1}, peer.None}, {[]int{0}, 0}, {[]int{40}, 40}, {[]int{9}, peer.None},
		{[]int{0, 2, 3}, 0}, {[]int{3, 2, 0}, 3}, {[]int{1, 2, 3}, 2}, {[]int{1, 5, 3}, 3}, {[]int{2, 1, 5}, 2},
		{[]int{1, 5, 9}, peer.None}, {[]int{1, 1, 1}, peer.None}, {[]int{2, 2}, 2},
		// more than MaxSucc
		{[]int{1, 5, 9, 3}, 3}, {[]int{1, 5, 9, 1, 5, 9, 1, 0, 2}, 0}, {[]int{1, 5, 9, 1, 5}, peer.None},
		// None is nobody; another negative number is an address like others
		{[]int{peer.None}, peer.None}, {[]int{peer.None, 3}, 3}, {[]int{peer.None, 1, peer.None, peer.None, 2}, 2}, {[]int{1, peer.None}, peer.None},
		{[]int{-7, 2}, -7}, {[]int{-8, 2}, 2}, {[]int{-9, math.MinInt, math.MaxInt, 3}, 3}, {[]int{-9, math.MinInt, math.MaxInt}, peer.None},
	} {
		kept := slices.Clone(c.succ)
		// Neither the place nor who is ahead is asked.
		for _, p := range []peer.Peer{{Succ: c.succ}, {Id: 30, Pred: 2, Succ: c.succ}, {Id: top, Pred: peer.None, Succ: c.succ}} {
			if got := peer.Head(p, some(t)); got != c.want {
				t.Errorf("%d: Head(%v) = %d, not %d", i, p, got, c.want)
			}
		}
		if !slices.Equal(c.succ, kept) {
			t.Errorf("Head changed %v to %v", kept, c.succ)
		}
	}
}

// P9.1
func TestFollow(t *testing.T) {
	for i, c := range []struct {
		s    int
		of   []int
		want []int
	}{
		{2, []int{3, 4, 5}, []int{2, 3, 4}}, {2, []int{3, 4}, []int{2, 3, 4}}, {2, []int{3}, []int{2, 3}}, {2, nil, []int{2}}, {2, []int{}, []int{2}},
		{0, []int{1, 2, 3, 4, 5, 6, 7}, []int{0, 1, 2}}, {31, []int{0, 1, 2, 3}, []int{31, 0, 1}},
		// Nobody is asked who lives, and none is left out.
		{2, []int{2, 2, 2}, []int{2, 2, 2}}, {1, []int{5, 9, 3}, []int{1, 5, 9}}, {peer.None, []int{3, 4, 5}, []int{peer.None, 3, 4}}, {peer.None, nil, []int{peer.None}},
		{7, []int{peer.None, 8, 9}, []int{7, peer.None, 8}}, {-7, []int{-8, math.MinInt}, []int{-7, -8, math.MinInt}}, {math.MaxInt, []int{math.MaxInt}, []int{math.MaxInt, math.MaxInt}},
	} {
		of := peer.Peer{Id: 77, Pred: 6, Succ: c.of}
		if got := peer.Follow(c.s, of); !slices.Equal(got, c.want) {
			t.Errorf("%d: Follow(%d, %v) = %v, not %v", i, c.s, c.of, got, c.want)
		}
	}
}

// K3: Follow's answer is new memory, and what it was handed stays as it was, with the spare room behind it.
func TestFollowIsNew(t *testing.T) {
	for used := range 6 {
		room := []int{3, 4, 5, 6, 7, 8}
		of := peer.Peer{Succ: room[:used]}
		a, b := peer.Follow(2, of), peer.Follow(2, of)
		for i := range a {
			a[i] = 99
		}
		_ = append(a, 99, 99)
		if want := []int{3, 4, 5, 6, 7, 8}; !slices.Equal(room, want) {
			t.Errorf("of %d: Follow shares what it was handed: %v", used, room)
		}
		if slices.Contains(b, 99) || slices.Contains(peer.Follow(2, of), 99) {
			t.Errorf("of %d: two answers share memory: %v", used, b)
		}
	}
}

// P9.1
func TestNearer(t *testing.T) {
	for i, c := range []struct {
		q    int
		from api.Id
		to   int
		want bool
	}{
		{2, 10, 3, true}, {3, 10, 2, false}, {0, 20, 3, false}, {0, 5, 3, true}, {2, 29, 3, true},
		// None, a dead one that lies between, one of which nothing is told
		{peer.None, 10, 3, false}, {1, 10, 3, false}, {-8, 10, 3, false}, {9, 10, 3, false}, {math.MinInt, 10, 3, false}, {peer.None, 10, peer.None, false}, {1, 10, peer.None, false},
		{-7, 10, 3, true}, {-7, 25, 3, false}, {-7, 24, -8, true},
		// at from's place, and at to's: to itself, and another one that lies there
		{0, 10, 3, false}, {2, 30, 3, false}, {3, 10, 3, false}, {2, 10, 2, false}, {2, 10, 4, false}, {4, 10, 2, false},
		// to may be dead: it still has a place
		{2, 10, 5, true}, {2, 10, 1, false}, {0, 9, 1, true}, {3, 10, 5, false}, {2, 20, 1, true}, {0, 20, 1, true},
		// round the circle
		{40, 40, 0, true}, {0, 40, 2, true}, {0, top, 2, true}, {40, top, 2, false}, {2, top, 0, false}, {0, top, 0, false}, {3, 10, 40, true}, {40, 10, 40, false}, {0, 40, 40, false}, {2, top - 1, 40, false},
		// from's place and to's are the same: all but it
		{2, 40, 3, true}, {0, 40, 3, true}, {3, 40, 3, false}, {2, 40, 5, true}, {0, 30, 2, true}, {4, 30, 2, false}, {0, top, 40, true}, {40, top, 40, false},
		// None has no place
		{2, 10, peer.None, false}, {0, 30, peer.None, false},
	} {
		if got := peer.Nearer(c.q, c.from, c.to, some(t)); got != c.want {
			t.Errorf("%d: Nearer(%d, %d, %d) = %v", i, c.q, c.from, c.to, got)
		}
	}
}

// P9.1: who is ahead behind Rectify.
func TestRectify(t *testing.T) {
	for i, c := range []struct {
		id         api.Id
		pred, n    int
		want       int
		whatIsTold string
	}{
		{40, peer.None, 0, 0, "nobody was ahead"}, {40, peer.None, 3, 3, "nobody was, and it is the member itself"}, {40, peer.None, 1, 1, "nobody was, and it is dead"}, {10, peer.None, 2, 2, "nobody was"}, {40, peer.None, -7, -7, "nobody was"},
		{40, 1, 0, 0, "a dead one was"}, {40, 1, 2, 2, "a dead one was"}, {40, 1, 3, 3, "a dead one was"}, {40, 5, 0, 0, "a dead one was"}, {40, -8, 0, 0, "a dead one was"}, {40, 9, 0, 0, "one of which nothing is told was"}, {40, math.MinInt, 0, 0, "one of which nothing is told was"}, {40, 1, 1, 1, "it, dead, was"},
		{40, 0, 2, 2, "it lies between"}, {40, 0, -7, -7, "it lies between"}, {40, 0, 1, 1, "it lies between, dead"}, {40, -7, 2, 2, "it lies between"}, {20, 40, 0, 0, "it lies between, round the circle"}, {10, 3, 40, 40, "it lies between, round the circle"}, {0, 3, 40, 40, "it lies between, round the circle"},
		{40, 2, 0, 2, "it lies ahead"}, {40, 2, -7, 2, "it lies ahead"}, {40, 2, 40, 2, "it lies behind"}, {20, 0, 2, 0, "it lies behind"}, {20, 40, 2, 40, "it lies behind"},
		{40, 0, 0, 0, "it was"}, {40, 2, 4, 2, "it lies at Pred's place"}, {40, 4, 2, 4, "it lies at Pred's place"}, {40, 2, 3, 2, "it lies at the member's own place"}, {40, 0, 5, 0, "it lies at the member's own place"},
		{40, 3, 0, 0, "the member itself was: all lie between"}, {40, 3, 40, 40, "the member itself was"}, {40, 3, 3, 3, "the member itself was, and is"}, {40, 3, 5, 3, "the member itself was, and it lies there"}, {30, 2, 4, 2, "the member itself was, and it lies there"}, {30, 2, 3, 3, "the member itself was"},
	} {
		p := peer.Peer{Id: c.id, Pred: c.pred, Succ: []int{9, peer.None, 1, 2}}
		got := peer.Rectify(p, c.n, some(t))
		if got.Pred != c.want || got.Id != c.id || !slices.Equal(got.Succ, []int{9, peer.None, 1, 2}) {
			t.Errorf("%d: Rectify(%v, %d) = %v, not Pred %d: %s", i, p, c.n, got, c.want, c.whatIsTold)
		}
		if p.Pred != c.pred || !slices.Equal(p.Succ, []int{9, peer.None, 1, 2}) {
			t.Errorf("%d: Rectify changed what it was handed: %v", i, p)
		}
	}
}

// P9.1: the Succ that Rectify answers is that of p, whether who is ahead is another one or not.
func TestRectifyKeepsSucc(t *testing.T) {
	for _, pred := range []int{peer.None, 0, 2} {
		p := peer.Peer{Id: 40, Pred: pred, Succ: []int{3, 4}}
		got := peer.Rectify(p, 2, some(t))
		if len(got.Succ) != 2 || &got.Succ[0] != &p.Succ[0] {
			t.Errorf("Pred %d: %v isn't the Succ of p", pred, got.Succ)
		}
		if none := peer.Rectify(peer.Peer{Id: 40, Pred: pred}, 2, some(t)); len(none.Succ) != 0 {
			t.Errorf("Pred %d: %v", pred, none)
		}
	}
}

// P9.1: Nearer and Rectify of many, told a second time.
func TestNearerAndRectifyOfMany(t *testing.T) {
	r := rand.New(rand.NewSource(91))
	places := []api.Id{0, 1, 2, 1 << 63, 1<<63 + 1, top - 1, top}
	place := func() api.Id { return places[r.Intn(len(places))] }
	counts := map[bool]int{}
	for range 50000 {
		k := known{t, map[int]member{}}
		for n := range 4 {
			k.members[n] = member{place(), r.Intn(3) > 0}
		}
		q, to, from := r.Intn(5)-1, r.Intn(4), place()
		near := q >= 0 && k.members[q].lives && within(k.members[q].id, from, k.members[to].id)
		counts[near]++
		if got := peer.Nearer(q, from, to, k); got != near {
			t.Fatalf("Nearer(%d, %d, %d) = %v of %v", q, from, to, got, k.members)
		}
		p := peer.Peer{Id: from, Pred: q}
		want := q
		if q < 0 || !k.members[q].lives || within(k.members[to].id, k.members[q].id, from) {
			want = to
		}
		if got := peer.Rectify(p, to, k); got.Pred != want {
			t.Fatalf("Rectify(%v, %d) = %v of %v", p, to, got, k.members)
		}
	}
	if counts[true] < 5000 || counts[false] < 5000 {
		t.Errorf("counts: %v", counts)
	}
}

// P9.1
func TestSame(t *testing.T) {
	base := func() peer.Peer { return peer.Peer{Id: 40, Pred: 0, Succ: []int{1, 2, 3}} }
	if !peer.Same(base(), base()) || !peer.Same(peer.Peer{}, peer.Peer{}) {
		t.Error("the same ones differ")
	}
	for i, b := range []peer.Peer{
		{Id: 41, Pred: 0, Succ: []int{1, 2, 3}}, {Id: 40 + 1<<63, Pred: 0, Succ: []int{1, 2, 3}}, {Id: 0, Pred: 0, Succ: []int{1, 2, 3}},
		{Id: 40, Pred: 1, Succ: []int{1, 2, 3}}, {Id: 40, Pred: peer.None, Succ: []int{1, 2, 3}}, {Id: 40, Pred: math.MinInt, Succ: []int{1, 2, 3}},
		{Id: 40, Pred: 0, Succ: []int{1, 2}}, {Id: 40, Pred: 0, Succ: []int{1, 2, 3, 4}}, {Id: 40, Pred: 0, Succ: []int{2, 3}}, {Id: 40, Pred: 0, Succ: []int{1, 2, 3, 3}}, {Id: 40, Pred: 0, Succ: []int{}}, {Id: 40, Pred: 0},
		{Id: 40, Pred: 0, Succ: []int{0, 2, 3}}, {Id: 40, Pred: 0, Succ: []int{1, 0, 3}}, {Id: 40, Pred: 0, Succ: []int{1, 2, 0}}, {Id: 40, Pred: 0, Succ: []int{1, 3, 2}}, {Id: 40, Pred: 0, Succ: []int{peer.None, 2, 3}}, {Id: 40, Pred: 0, Succ: []int{1, 2, peer.None}},
	} {
		if peer.Same(base(), b) || peer.Same(b, base()) {
			t.Errorf("%d: %v is the same", i, b)
		}
		if !peer.Same(b, b) {
			t.Errorf("%d: %v isn't itself", i, b)
		}
	}
	// K1: a list that is nil and an empty one are the same; spare room is no part of a list.
	if !peer.Same(peer.Peer{Id: 1, Succ: nil}, peer.Peer{Id: 1, Succ: []int{}}) || !peer.Same(peer.Peer{Id: 1, Succ: []int{}}, peer.Peer{Id: 1}) {
		t.Error("nil and empty differ")
	}
	if long := []int{1, 2, 3, 4}; !peer.Same(base(), peer.Peer{Id: 40, Succ: long[:3]}) {
		t.Error("spare room is looked at")
	}
}
