package route_test

import (
	"fmt"
	"math/rand"
	"slices"
	"testing"

	"wigwag/api"
	"wigwag/chord"
	"wigwag/peer"
	"wigwag/route"
)

// P12.1: the chapter's examples.
func TestExamples(t *testing.T) {
	b := tens(t)
	b.expectPath(0, 35, api.OK, 0, 2, 3)
	b.expectPath(1, 15, api.OK, 1)
}

// town is a Known of some addresses; those that aren't in it live nowhere.
type town struct {
	t      *testing.T
	places map[int]api.Id
	dead   []int
}

func (w town) Lives(n int) bool {
	w.ask(n)
	_, ok := w.places[n]
	return ok && !slices.Contains(w.dead, n)
}

func (w town) Id(n int) api.Id {
	w.ask(n)
	return w.places[n]
}

// ask: Known says nothing of None, so that nobody may ask for it.
func (w town) ask(n int) {
	if n == peer.None {
		w.t.Error("None was asked for")
	}
}

// P12.1
func TestOwns(t *testing.T) {
	w := town{t: t, places: map[int]api.Id{1: 10, 2: 30, 3: 20, 4: top, 5: 0, 1000: 12}, dead: []int{3}}
	for i, c := range []struct {
		id   api.Id
		pred int
		x    api.Id
		want bool
	}{
		{30, 1, 20, true}, {30, 1, 11, true}, {30, 1, 30, true}, {30, 1, 29, true},
		{30, 1, 10, false}, {30, 1, 9, false}, {30, 1, 31, false}, {30, 1, 0, false}, {30, 1, top, false},
		// Nobody is ahead, or one that is dead, or of whom nothing is known.
		{30, peer.None, 20, false}, {30, peer.None, 30, false}, {30, 3, 25, false}, {30, 3, 30, false}, {30, 3, 20, false}, {30, 9, 25, false}, {30, -2, 25, false},
		// Pred lies at the place of the member itself: all places are met.
		{30, 2, 30, true}, {30, 2, 29, true}, {30, 2, 31, true}, {30, 2, 0, true}, {30, 2, top, true},
		// Round the top.
		{10, 2, 5, true}, {10, 2, 10, true}, {10, 2, 31, true}, {10, 2, 0, true}, {10, 2, top, true}, {10, 2, 30, false}, {10, 2, 11, false}, {10, 2, 20, false},
		{0, 4, 0, true}, {0, 4, top, false}, {0, 4, 1, false}, {top, 5, top, true}, {top, 5, 0, false}, {top, 5, 1, true}, {5, 5, 0, false}, {5, 5, 5, true},
		// Any address may be known.
		{20, 1000, 13, true}, {20, 1000, 12, false},
	} {
		p := peer.Peer{Id: c.id, Pred: c.pred, Succ: []int{1, 2}}
		if got := route.Owns(p, c.x, w); got != c.want {
			t.Errorf("%d: Owns(%v, %d) = %v", i, p, c.x, got)
		}
	}
}

// P12.1: all arcs of some places.
func TestOwnsOfAllArcs(t *testing.T) {
	places := []api.Id{0, 1, 5, 1<<63 - 1, 1 << 63, top - 1, top}
	for _, from := range places {
		for _, to := range places {
			for _, x := range places {
				w := town{t: t, places: map[int]api.Id{7: from}}
				if got := route.Owns(peer.Peer{Id: to, Pred: 7}, x, w); got != met(x, from, to) {
					t.Errorf("from %d to %d: %d: %v", from, to, x, got)
				}
			}
		}
	}
}

// P12.1, K2: of one that never was, that went, and of ints that are no address. Beside Next's error stands None.
func TestOfTheDead(t *testing.T) {
	b := tens(t)
	b.must(b.r.Join(4, 25, 0))
	b.must(b.r.Join(5, 26, 0))
	b.round()
	was := b.f.Of(4)
	b.must(b.r.Fail(4))
	for _, n := range append([]int{4, 6, 31}, wrong...) {
		for _, x := range []api.Id{0, 10, 25, 26, 35, top} {
			b.expectNext(n, x, peer.None, api.ErrDead)
			b.expectPath(n, x, api.ErrDead)
		}
		b.fix(n)
	}
	if len(was) == 0 {
		t.Fatal("4 had no fingers")
	}
	b.expectFingers(4, was...)
	b.round()
	b.expectFingers(4, was...)
}

// P12.1: a place of its own, its head's, and beyond; its own place, though it doesn't know who is ahead.
func TestNext(t *testing.T) {
	b := tens(t)
	for _, c := range []struct {
		n    int
		x    api.Id
		want int
	}{
		{0, 10, 0}, {0, 9, 0}, {0, 0, 0}, {0, top, 0}, {0, 41, 0}, {0, 1 << 63, 0},
		{0, 11, 1}, {0, 19, 1}, {0, 20, 1},
		// Beyond the head: the one of Succ that lies nearest ahead of the place, not at it.
		{0, 21, 1}, {0, 30, 1}, {0, 31, 2}, {0, 40, 2},
		{2, 5, 3}, {2, 10, 3}, {2, 11, 0}, {2, 20, 0}, {2, 21, 2}, {2, 30, 2}, {2, 31, 3},
		{3, 41, 0}, {3, 10, 0}, {3, 11, 0}, {3, 21, 1}, {3, 30, 1}, {3, 31, 3},
		{1, 41, 3}, {1, 10, 3}, {1, 40, 2}, {1, 35, 2}, {1, 0, 3}, {1, top, 3},
	} {
		b.expectNext(c.n, c.x, c.want, api.OK)
		b.lookWay(c.n, c.x)
	}
	for _, x := range []api.Id{10, 20, 30, 40} {
		for n := range chord.Base {
			b.lookWay(n, x)
			b.lookWay(n, x-1)
			b.lookWay(n, x+1)
		}
	}
}

// P12.1: the first of Succ that lives is the head; dead ones are nobody's next.
func TestNextOverDead(t *testing.T) {
	b := tens(t)
	b.must(b.r.Join(4, 25, 0))
	b.must(b.r.Join(5, 27, 0))
	b.settle()
	b.round()
	b.must(b.r.Fail(4))
	b.expectPeer(1, 0, 4, 5, 2)
	b.expectNext(1, 24, 5, api.OK)
	b.expectNext(1, 25, 5, api.OK)
	b.expectNext(1, 27, 5, api.OK)
	b.expectNext(1, 28, 5, api.OK)
	b.expectNext(1, 31, 2, api.OK)
	b.expectPeer(0, 3, 1, 4, 5)
	b.expectNext(0, 26, 1, api.OK)
	b.expectNext(0, 28, 5, api.OK)
	// 5 doesn't know who is ahead of it: only its own place is its own.
	b.expectPeer(5, 4, 2, 3, 0)
	b.expectNext(5, 27, 5, api.OK)
	b.expectNext(5, 26, 0, api.OK)
	b.expectNext(5, 24, 0, api.OK)
	b.must(b.r.Fail(5))
	b.expectNext(1, 25, 2, api.OK)
	b.expectNext(2, 30, 2, api.OK)
	b.expectNext(2, 29, 1, api.OK)
}

// ten: base members and six more, settled, at 100, 200 and so on by their addresses, without fingers.
func ten(t *testing.T) *both {
	b := start(t, 100, 200, 300, 400)
	for n := chord.Base; n < 10; n++ {
		b.must(b.r.Join(n, api.Id(100*(n+1)), 0))
	}
	b.settle()
	b.expectPeer(0, 9, 1, 2, 3)
	return b
}

// P12.1: of fingers the one that lies nearest ahead of the place; those that are dead, none, or lie at it or behind it, aren't taken.
func TestNextByFingers(t *testing.T) {
	b := ten(t)
	b.expectNext(0, 750, 3, api.OK)
	for _, c := range []struct {
		fingers []int
		x       api.Id
		want    int
	}{
		{[]int{5}, 750, 5}, {[]int{5, 6}, 750, 6}, {[]int{6, 5}, 750, 6}, {[]int{6, 5, 7, 8, 9}, 750, 6},
		// behind the place, or at it
		{[]int{7}, 750, 3}, {[]int{9, 8, 7}, 750, 3}, {[]int{6}, 700, 3}, {[]int{6}, 701, 6}, {[]int{6, 5}, 700, 5}, {[]int{6}, 699, 3},
		// no better than Succ
		{[]int{1}, 750, 3}, {[]int{2, 3}, 750, 3}, {[]int{1, 2}, 250, 1}, {[]int{2, 4}, 201, 1}, {[]int{4, 5}, 400, 2},
		// itself; none; ints that are no address; one that never was
		{[]int{0}, 750, 3}, {[]int{0, 5, 0}, 750, 5}, {[]int{peer.None}, 750, 3}, {[]int{peer.None, 4, peer.None}, 750, 4},
		{wrong, 750, 3}, {append(slices.Clone(wrong), 6, 31, 12), 750, 6}, {[]int{31}, 750, 3}, {[]int{20, 5, 20}, 750, 5},
		// twice
		{[]int{5, 5, 4, 4, 5}, 750, 5},
		// the head and its own come first, whoever is a finger
		{[]int{5, 9}, 150, 1}, {[]int{1, 5}, 200, 1}, {[]int{5, 9, 1}, 100, 0}, {[]int{9}, 50, 0}, {[]int{9}, 1001, 0}, {[]int{9}, top, 0}, {[]int{9, 8}, 1000, 8},
		{nil, 750, 3}, {[]int{}, 750, 3},
	} {
		b.set(0, c.fingers...)
		b.expectNext(0, c.x, c.want, api.OK)
		b.lookWay(0, c.x)
	}
	// The fingers of another one are nobody's business.
	b.set(0)
	b.set(1, 6)
	b.expectNext(0, 750, 3, api.OK)
	b.expectNext(1, 750, 6, api.OK)
	b.expectPath(0, 750, api.OK, 0, 3, 6, 7)
}

// P12.1: a finger that went isn't taken.
func TestNextByDeadFingers(t *testing.T) {
	b := ten(t)
	b.set(0, 5, 6)
	b.expectNext(0, 750, 6, api.OK)
	b.must(b.r.Fail(6))
	b.expectNext(0, 750, 5, api.OK)
	b.must(b.r.Fail(5))
	b.expectNext(0, 750, 3, api.OK)
	b.expectFingers(0, 5, 6)
	// One that comes at the place of one that went is another one.
	b.must(b.r.Join(20, 700, 0))
	b.expectNext(0, 750, 3, api.OK)
	b.set(0, 5, 6, 20)
	b.expectNext(0, 750, 20, api.OK)
}

// P12.1: fingers of one whose way leads round the top.
func TestNextRoundTheTop(t *testing.T) {
	b := ten(t)
	b.expectPeer(7, 6, 8, 9, 0)
	for _, c := range []struct {
		fingers []int
		x       api.Id
		want    int
	}{
		{nil, 250, 0}, {[]int{1}, 250, 1}, {[]int{2}, 250, 0}, {[]int{1, 2, 3}, 250, 1}, {[]int{3, 2, 1}, 301, 2}, {[]int{5, 6}, 650, 5}, {[]int{6}, 700, 0}, {[]int{7}, 250, 0}, {[]int{8}, 250, 0}, {[]int{8, 1}, 900, 8}, {[]int{0, 1}, 50, 9}, {[]int{0}, 100, 9}, {[]int{0}, 101, 0}, {[]int{0}, top, 9},
	} {
		b.set(7, c.fingers...)
		b.expectNext(7, c.x, c.want, api.OK)
		b.lookWay(7, c.x)
	}
}

// P12.1
func TestPath(t *testing.T) {
	b := tens(t)
	for _, c := range []struct {
		n    int
		x    api.Id
		want []int
	}{
		{0, 10, []int{0}}, {0, 5, []int{0}}, {0, 15, []int{0, 1}}, {0, 20, []int{0, 1}}, {0, 21, []int{0, 1, 2}}, {0, 30, []int{0, 1, 2}}, {0, 31, []int{0, 2, 3}}, {0, 40, []int{0, 2, 3}}, {0, 41, []int{0}}, {0, top, []int{0}},
		{2, 5, []int{2, 3, 0}}, {2, 10, []int{2, 3, 0}}, {2, 20, []int{2, 0, 1}}, {2, 0, []int{2, 3, 0}}, {3, 25, []int{3, 1, 2}}, {1, 10, []int{1, 3, 0}},
	} {
		b.expectPath(c.n, c.x, api.OK, c.want...)
	}
}

// P12.1: nobody has fingers, and the way leads once round; then all have.
func TestPathOfMany(t *testing.T) {
	b := start(t, 100, 200, 300, 400)
	for n := chord.Base; n < api.MaxNodes; n++ {
		b.must(b.r.Join(n, api.Id(100*(n+1)), 0))
	}
	b.settle()
	b.expectPath(0, 3150, api.OK, 0, 3, 6, 9, 12, 15, 18, 21, 24, 27, 30, 31)
	b.expectPath(1, 150, api.OK, 1)
	b.expectPath(1, 50, api.OK, 1, 4, 7, 10, 13, 16, 19, 22, 25, 28, 31, 0)
	b.round()
	b.expectPath(0, 3150, api.OK, 0, 21, 27, 30, 31)
	b.lookCalm(rand.New(rand.NewSource(1)))
	b.lookFingers()
}

// P12.1: each one knows just the next one ahead of the place, so that the way has nearly all there are.
func TestPathOneByOne(t *testing.T) {
	b := tens(t)
	want := []int{2, 3}
	for n := chord.Base; n < api.MaxNodes; n++ {
		b.must(b.r.Join(n, api.Id(100*n), n-1))
		b.must(b.r.Stabilize(n))
		b.must(b.r.Stabilize(n - 1))
		b.expectPeer(n-1, n-2, n, 0, 1)
		want = append(want, n)
	}
	b.expectPath(2, 3100, api.OK, want...)
	b.expectPath(2, 3101, api.OK, append(want, 0)...)
	b.expectPath(2, top, api.OK, append(want, 0)...)
	b.fix(2)
	b.expectFingers(2, 3, 4, 6, 11, 21, 0)
	b.expectPath(2, 3100, api.OK, append([]int{2}, want[19:]...)...)
}

// stuck: 4 went, which 2 thinks to be ahead of it, so that the places that were 4's are nobody's.
func stuck(t *testing.T) *both {
	b := tens(t)
	b.must(b.r.Join(4, 25, 0))
	b.settle()
	b.must(b.r.Fail(4))
	b.expectPeer(2, 4, 3, 0, 1)
	return b
}

// P12.1: a way without an end; till the one ahead has told that it is.
func TestPathWithoutEnd(t *testing.T) {
	b := stuck(t)
	for n := range chord.Base {
		for _, x := range []api.Id{21, 25, 26, 29} {
			b.expectPath(n, x, api.ErrHops)
		}
		if way, err := b.f.Path(n, 30); err != nil || way[len(way)-1] != 2 {
			t.Errorf("2's own place: %v, %v", way, err)
		}
		b.lookWay(n, 20)
		b.lookWay(n, 31)
	}
	b.must(b.r.Stabilize(1))
	b.expectPath(0, 21, api.OK, 0, 1, 2)
	b.expectPath(0, 29, api.OK, 0, 1, 2)
}

// P12.1: just behind a Join the old owner still answers, but to those that ask the new one.
func TestPathBehindJoin(t *testing.T) {
	b := tens(t)
	b.must(b.r.Join(4, 25, 0))
	b.expectPath(0, 23, api.OK, 0, 1, 2)
	b.expectPath(4, 23, api.OK, 4)
	b.expectPath(4, 27, api.OK, 4, 2)
	b.expectPath(2, 23, api.OK, 2)
	b.must(b.r.Stabilize(4))
	b.expectPath(2, 27, api.OK, 2)
	// 1 asks 2, which knows that 23 isn't its own: round and round.
	b.expectPath(0, 23, api.ErrHops)
	b.expectPath(0, 25, api.ErrHops)
	b.expectPath(0, 26, api.OK, 0, 1, 2)
	b.must(b.r.Stabilize(1))
	b.expectPath(0, 23, api.OK, 0, 1, 4)
	b.expectPath(0, 26, api.OK, 0, 1, 4, 2)
}

// P12.1: each once in a row; the member itself may be one.
func TestFix(t *testing.T) {
	b := tens(t)
	for n := range api.MaxNodes {
		b.expectFingers(n)
	}
	b.fix(0)
	b.expectFingers(0, 1, 2, 0)
	b.expectFingers(1)
	b.fix(3)
	b.expectFingers(3, 0)
	b.fix(1)
	b.expectFingers(1, 2, 3, 0)
	b.fix(1)
	b.expectFingers(1, 2, 3, 0)
	b.expectFingers(2)

	b = start(t, 0, 1<<62, 1<<63, 3<<62)
	b.fix(0)
	b.expectFingers(0, 1, 2)
	b.fix(3)
	b.expectFingers(3, 0, 1)
	b = start(t, 0, 1<<62+1, 1<<63+1, top)
	b.fix(0)
	b.expectFingers(0, 1, 2)
	b.fix(3)
	b.expectFingers(3, 0, 1, 2)
}

// P12.1: places without a way have no finger, and what stands at both sides of them comes once.
func TestFixWithoutSome(t *testing.T) {
	b := stuck(t)
	b.fix(1) // 21, 22, 24 and 28 are nobody's
	b.expectFingers(1, 3, 0)
	b.fix(0) // 26 is nobody's
	b.expectFingers(0, 1, 0)
	b.fix(2)
	b.expectFingers(2, 3, 0)

	// From 6 on at 18: 19, 20 are 1's; 22, 26 nobody's; 34 is 3's.
	b.must(b.r.Join(6, 18, 0))
	b.fix(6)
	b.expectFingers(6, 1, 3, 0)
}

// hidden: 1 thinks that 0 is ahead of it, but 6, which only 3 knows, and 4 behind that lie between; 4 thinks that 5 is ahead of it, which went.
func hidden(t *testing.T) *both {
	b := start(t, 10, 10000, 20000, 0)
	b.must(b.r.Join(4, 5000, 0))
	b.must(b.r.Stabilize(4))
	b.must(b.r.Join(5, 1500, 0))
	b.must(b.r.Stabilize(5))
	b.must(b.r.Join(6, 2500, 5))
	b.must(b.r.Join(7, 7000, 4))
	b.must(b.r.Stabilize(7))
	b.must(b.r.Fail(7))
	b.must(b.r.Stabilize(0))
	b.must(b.r.Fail(5))
	b.set(3, 6)
	b.expectPeer(1, 0, 2, 3, 0)
	b.expectPeer(4, 5, 1, 2, 3)
	b.expectPeer(6, 5, 4, 1, 2)
	return b
}

// P12.1: one that is the same as the one ahead in the list isn't told again, though a place without a way lay between; one that isn't comes again.
func TestFixAgain(t *testing.T) {
	b := hidden(t)
	b.expectPath(3, 2048, api.OK, 3, 0, 1)
	b.expectPath(3, 4096, api.ErrHops)
	b.expectPath(3, 8192, api.OK, 3, 6, 4, 1)
	b.fix(3)
	b.expectFingers(3, 0, 1, 2, 3)

	b = hidden(t)
	b.must(b.r.Stabilize(6))
	b.expectPath(3, 2048, api.OK, 3, 0, 1)
	b.expectPath(3, 4096, api.OK, 3, 6, 4)
	b.expectPath(3, 8192, api.OK, 3, 6, 4, 1)
	b.fix(3)
	b.expectFingers(3, 0, 1, 4, 1, 2, 3)
}

// P12.1: all are asked for by the fingers that were there ahead.
func TestFixByOldFingers(t *testing.T) {
	b := ten(t)
	b.set(0, 9, 5, peer.None, 77)
	b.fix(0)
	b.expectFingers(0, 1, 2, 3, 6, 0)
	b.lookWay(0, 750)
}

// P12.1
func TestRound(t *testing.T) {
	b := ten(t)
	b.round()
	b.expectFingers(0, 1, 2, 3, 6, 0)
	b.expectFingers(9, 0)
	b.expectFingers(4, 5, 6, 7, 0)
	b.lookFingers()
	b.must(b.r.Fail(9))
	b.must(b.r.Join(11, 1050, 3))
	b.round()
	b.expectFingers(9, 0)
	b.settle()
	b.round()
	b.expectFingers(9, 0)
	b.expectFingers(11, 0)
	b.expectFingers(8, 11, 0)
	b.lookFingers()
}

// K3: answers are new memory, and beside an error nothing has changed.
func TestMemory(t *testing.T) {
	b := ten(t)
	b.round()
	g := rand.New(rand.NewSource(1))
	for n := range 10 {
		first, second := b.f.Of(n), b.f.Of(n)
		spoil(first)
		if slices.Contains(second, 99) {
			t.Fatalf("two answers of Of(%d) share memory", n)
		}
		one, err := b.f.Path(n, 750)
		b.must(err)
		two, err := b.f.Path(n, 750)
		b.must(err)
		spoil(one)
		if slices.Contains(two, 99) {
			t.Fatalf("two answers of Path(%d) share memory", n)
		}
		b.look(g)
	}
	p, err := b.r.Peer(0)
	b.must(err)
	route.Owns(p, 5, b.r)
	if !peer.Same(p, peer.Peer{Id: 100, Pred: 9, Succ: []int{1, 2, 3}}) {
		t.Errorf("Owns changed %v", p)
	}
	b.expectPeer(0, 9, 1, 2, 3)
}

// spoil writes over a list and the room behind it.
func spoil(l []int) {
	l = l[:cap(l)]
	for i := range l {
		l[i] = 99
	}
}

// P12.1: neither Next, Path, Fix nor Round changes the ring.
func TestRingStays(t *testing.T) {
	b := stuck(t)
	twin := stuck(t)
	g := rand.New(rand.NewSource(2))
	for range 5 {
		b.look(g)
		b.round()
	}
	for n := range api.MaxNodes {
		p, err := b.r.Peer(n)
		q, other := twin.r.Peer(n)
		if !peer.Same(p, q) || api.Of(err) != api.Of(other) {
			t.Fatalf("the ring changed: %v, %v", p, q)
		}
	}
}

// P12.1: two of one ring are two; each sees the ring as it is now.
func TestFingersAreApart(t *testing.T) {
	b := ten(t)
	other := route.New(b.r)
	b.round()
	for n := range 10 {
		if got := other.Of(n); len(got) != 0 {
			t.Fatalf("Of(%d) = %v", n, got)
		}
	}
	b.must(b.r.Join(12, 750, 0))
	b.settle()
	for _, f := range []*route.Fingers{b.f, other} {
		if way, err := f.Path(0, 740); err != nil || way[len(way)-1] != 12 {
			t.Errorf("Path: %v, %v", way, err)
		}
	}
	if err := other.Fix(0); err != nil || !slices.Equal(b.f.Of(0), []int{1, 2, 3, 6, 0}) {
		t.Errorf("%v: %v", b.f.Of(0), err)
	}
}

// K4: the same calls are answered in the same way.
func TestSameCallsSameFingers(t *testing.T) {
	for seed := range 10 {
		var told []string
		for range 2 {
			g := rand.New(rand.NewSource(int64(seed)))
			b := anyStart(t, g)
			for range 80 {
				b.anyCall(g, 30, 45)
			}
			text := ""
			for n := range api.MaxNodes {
				way, err := b.f.Path(n, api.Id(g.Uint64()))
				text += fmt.Sprint(b.f.Of(n), way, err)
			}
			told = append(told, text)
		}
		if told[0] != told[1] {
			t.Fatalf("%s, then %s", told[0], told[1])
		}
	}
}

// P12.1, P12.2: many runs of calls; behind each call all is held against the chapter's words, and now and then the calm is looked at.
func TestManyRuns(t *testing.T) {
	counts := map[string]int{}
	for seed := range 150 {
		g := rand.New(rand.NewSource(int64(seed)))
		b := anyStart(t, g)
		b.counts = counts
		few, many := 5+g.Intn(15), 15+g.Intn(30)
		for i := range 100 {
			if i < 50 {
				b.anyCall(g, many, many+few)
			} else {
				b.anyCall(g, few, few+many)
			}
			b.look(g)
		}
		// The fingers are those of a ring that has changed since.
		b.settle()
		b.lookCalm(g)
		b.anyFingers(g)
		b.look(g)
		b.lookCalm(g)
		b.round()
		b.lookFingers()
		b.lookCalm(g)
		b.round()
		b.lookFingers()
	}
	for _, what := range []string{"Next ok", "Next dead", "Path ok", "Path dead", "Path hops", "round and round", "finger without a way"} {
		if counts[what] < 30 {
			t.Errorf("%s: only %d times", what, counts[what])
		}
	}
}

// P12.1: any fingers, on rings on which not all is as it should be.
func TestAnyFingers(t *testing.T) {
	for seed := range 100 {
		g := rand.New(rand.NewSource(int64(seed)))
		b := anyStart(t, g)
		for range 40 {
			b.anyCall(g, 40, 55)
			if g.Intn(4) == 0 {
				b.anyFingers(g)
			}
			b.look(g)
		}
	}
}
