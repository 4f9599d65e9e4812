package ideal_test

import (
	"fmt"
	"math"
	"math/rand"
	"slices"
	"testing"

	"wigwag/api"
	"wigwag/chord"
	"wigwag/ideal"
	"wigwag/peer"
)

// P11.1: the chapter's example.
func TestExample(t *testing.T) {
	r := tens(t)
	c := ideal.Of(r)
	if c.Len() != 4 || c.Owner(25) != 2 || c.Owner(41) != 0 || c.Finger(0, 4) != 2 {
		t.Errorf("Len %d, Owner %d, %d, Finger %d", c.Len(), c.Owner(25), c.Owner(41), c.Finger(0, 4))
	}
	if p, ok := c.Peer(1); !ok || p.Id != 20 || p.Pred != 0 || !slices.Equal(p.Succ, []int{2, 3, 0}) {
		t.Errorf("Peer: %v, %v", p, ok)
	}
	if !ideal.Is(r) {
		t.Error("Is says no of a new ring")
	}
}

// P11.1: at a member's place, just ahead of it and just behind it, at both ends of the circle, round its top.
func TestOwner(t *testing.T) {
	inside := ideal.Of(tens(t))
	ends := ideal.Of(founded(t, 1<<63, top, 0, 7))
	high := ideal.Of(founded(t, top-1, top-7, top-3, top-5))
	for i, c := range []struct {
		of   ideal.Circle
		x    api.Id
		want int
	}{
		{inside, 10, 0}, {inside, 9, 0}, {inside, 11, 1}, {inside, 20, 1}, {inside, 19, 1}, {inside, 21, 2},
		{inside, 39, 3}, {inside, 40, 3}, {inside, 41, 0}, {inside, 0, 0}, {inside, top, 0}, {inside, 1 << 63, 0},
		{ends, 0, 2}, {ends, top, 1}, {ends, top - 1, 1}, {ends, 1, 3}, {ends, 7, 3}, {ends, 8, 0}, {ends, 6, 3},
		{ends, 1 << 63, 0}, {ends, 1<<63 + 1, 1}, {ends, 1<<63 - 1, 0},
		{high, 0, 1}, {high, top, 1}, {high, top - 1, 0}, {high, top - 2, 0}, {high, top - 3, 2}, {high, top - 4, 2}, {high, top - 6, 3}, {high, top - 7, 1}, {high, top - 8, 1},
	} {
		if got := c.of.Owner(c.x); got != c.want {
			t.Errorf("%d: Owner(%d) = %d, not %d", i, c.x, got, c.want)
		}
	}
}

// P11.1: who should be ahead and behind, with places that don't rise with the addresses.
func TestPeer(t *testing.T) {
	r := founded(t, 1<<63, top, 0, 7)
	must(t, r.Join(9, 5, 0))
	must(t, r.Join(4, top-1, 0))
	c := ideal.Of(r)
	for _, x := range []struct {
		n, pred int
		id      api.Id
		succ    []int
	}{
		{2, 1, 0, []int{9, 3, 0}}, {9, 2, 5, []int{3, 0, 4}}, {3, 9, 7, []int{0, 4, 1}},
		{0, 3, 1 << 63, []int{4, 1, 2}}, {4, 0, top - 1, []int{1, 2, 9}}, {1, 4, top, []int{2, 9, 3}},
	} {
		if p, ok := c.Peer(x.n); !ok || p.Id != x.id || p.Pred != x.pred || !slices.Equal(p.Succ, x.succ) {
			t.Errorf("Peer(%d) = %v, %v; not %v", x.n, p, ok, x)
		}
	}
	if c.Len() != 6 {
		t.Errorf("Len = %d", c.Len())
	}
}

// P11.1: fingers near, half the circle away, and round the top; one may be the address itself.
func TestFinger(t *testing.T) {
	inside := ideal.Of(tens(t))
	ends := ideal.Of(founded(t, 1<<63, top, 0, 7))
	for i, c := range []struct {
		of         ideal.Circle
		n, k, want int
	}{
		{inside, 0, 0, 1}, {inside, 0, 3, 1}, {inside, 0, 4, 2}, {inside, 0, 5, 0}, {inside, 0, 63, 0},
		{inside, 3, 0, 0}, {inside, 3, 63, 0}, {inside, 1, 2, 2}, {inside, 1, 4, 3}, {inside, 2, 3, 3},
		{ends, 0, 0, 1}, {ends, 0, 62, 1}, {ends, 0, 63, 2}, {ends, 1, 0, 2}, {ends, 1, 1, 3}, {ends, 1, 3, 3}, {ends, 1, 4, 0}, {ends, 1, 63, 0},
		{ends, 2, 0, 3}, {ends, 2, 2, 3}, {ends, 2, 3, 0}, {ends, 2, 63, 0}, {ends, 3, 63, 1}, {ends, 3, 62, 0},
	} {
		if got := c.of.Finger(c.n, c.k); got != c.want {
			t.Errorf("%d: Finger(%d, %d) = %d, not %d", i, c.n, c.k, got, c.want)
		}
	}
	for n := range chord.Base {
		for _, k := range []int{-1, 64, 65, -64, math.MinInt, math.MaxInt} {
			if got := inside.Finger(n, k); got != peer.None {
				t.Errorf("Finger(%d, %d) = %d", n, k, got)
			}
		}
	}
}

// P11.1, K2: addresses that aren't of the circle: that never came, that went, and those that are none.
func TestStrangers(t *testing.T) {
	r := tens(t)
	must(t, r.Join(4, 25, 0))
	must(t, r.Join(5, 26, 0))
	must(t, r.Fail(4))
	c := ideal.Of(r)
	for _, n := range append([]int{4, 6, 31}, wrong...) {
		if fault := strangerFault(c, n); fault != "" {
			t.Error(fault)
		}
	}
	if c.Len() != 5 || c.Owner(25) != 5 || c.Owner(26) != 5 || c.Owner(27) != 2 {
		t.Errorf("Len %d, Owner %d, %d, %d", c.Len(), c.Owner(25), c.Owner(26), c.Owner(27))
	}
}

// P11.1: the empty circle.
func TestEmptyCircle(t *testing.T) {
	var c ideal.Circle
	if c.Len() != 0 {
		t.Errorf("Len = %d", c.Len())
	}
	for _, x := range []api.Id{0, 1, 1 << 63, top} {
		if got := c.Owner(x); got != peer.None {
			t.Errorf("Owner(%d) = %d", x, got)
		}
	}
	for _, n := range append([]int{0, 1, 31}, wrong...) {
		if fault := strangerFault(c, n); fault != "" {
			t.Error(fault)
		}
	}
}

// P11.1
func TestRounds(t *testing.T) {
	for _, c := range []struct{ n, want int }{
		{-1, 8}, {-2, 8}, {math.MinInt, 8}, {-1 << 61, 8}, {0, 8}, {1, 12}, {2, 16}, {3, 20}, {4, 24}, {32, 136}, {1<<60 - 1, 1<<62 + 4},
	} {
		if got := ideal.Rounds(c.n); got != c.want {
			t.Errorf("Rounds(%d) = %d, not %d", c.n, got, c.want)
		}
	}
	_ = ideal.Rounds(math.MaxInt) // nothing is promised but that it ends
}

func expectIs(t *testing.T, r *chord.Ring, want bool, when string) {
	t.Helper()
	if got := ideal.Is(r); got != want {
		t.Errorf("%s: Is = %v", when, got)
	}
	look(t, r)
}

// P11.1: one wrong thing that one member knows is enough for no.
func TestIs(t *testing.T) {
	r := tens(t)
	expectIs(t, r, true, "a new ring")
	must(t, r.Join(4, 25, 0))
	expectIs(t, r, false, "just behind a Join")
	must(t, r.Fail(4))
	expectIs(t, r, true, "it went, and nobody knew of it")
	must(t, r.Join(5, 25, 0))
	// From here on till all know of 5: 2's Pred is mended first, then a Succ each.
	for i, n := range []int{5, 1, 0, 3} {
		must(t, r.Stabilize(n))
		expectIs(t, r, n == 3, fmt.Sprintf("%d calls of Stabilize", i+1))
	}
	must(t, r.Fail(5))
	expectIs(t, r, false, "just behind a Fail")
	// 2's Pred is 5, till 1 tells it; each Succ that has 5 is mended from behind.
	for i, n := range []int{1, 0, 3, 2} {
		must(t, r.Stabilize(n))
		expectIs(t, r, n == 3 || n == 2, fmt.Sprintf("gone: %d calls of Stabilize", i+1))
	}
}

// P11.1: only Pred isn't as it should be: one went that was in nobody's Succ any more, or not yet.
func TestIsOfPred(t *testing.T) {
	r := tens(t)
	must(t, r.Join(4, 25, 0))
	must(t, r.Stabilize(4))
	must(t, r.Fail(4))
	for n := range chord.Base {
		p, err := r.Peer(n)
		must(t, err)
		if slices.Contains(p.Succ, 4) {
			t.Fatalf("%d knows %v", n, p)
		}
	}
	expectIs(t, r, false, "2 thinks that 4 is ahead of it")
	must(t, r.Stabilize(1))
	expectIs(t, r, true, "1 told it")
}

// P11.1: only the last of one Succ isn't as it should be.
func TestIsOfTheLastSucc(t *testing.T) {
	r := tens(t)
	must(t, r.Join(4, 25, 0))
	for _, n := range []int{4, 1, 0} {
		must(t, r.Stabilize(n))
	}
	p, err := r.Peer(3)
	must(t, err)
	if !slices.Equal(p.Succ, []int{0, 1, 2}) {
		t.Fatalf("3 knows %v", p)
	}
	expectIs(t, r, false, "3 doesn't know of 4")
	must(t, r.Stabilize(3))
	expectIs(t, r, true, "3 looked")
}

// K3: a circle, once made, doesn't change when the ring does.
func TestCircleStays(t *testing.T) {
	r, twin := tens(t), tens(t)
	for _, x := range []*chord.Ring{r, twin} {
		must(t, x.Join(4, 25, 0))
	}
	c := ideal.Of(r)
	must(t, r.Join(5, 27, 4))
	must(t, r.Join(6, top, 0))
	must(t, r.Fail(4))
	r.Round()
	if fault := circleFault(c, twin); fault != "" {
		t.Errorf("the circle changed: %s", fault)
	}
	look(t, r)
}

// K3: answers share no memory with each other, with the circle, or with the ring; and the ring isn't changed.
func TestMemory(t *testing.T) {
	r, twin := tens(t), tens(t)
	for _, x := range []*chord.Ring{r, twin} {
		must(t, x.Join(4, 25, 0))
		must(t, x.Join(9, 0, 0))
	}
	c := ideal.Of(r)
	copied := c
	for n := range api.MaxNodes {
		first, _ := c.Peer(n)
		second, _ := c.Peer(n)
		spoil(first.Succ)
		if slices.Contains(second.Succ, 99) {
			t.Fatalf("two answers of Peer(%d) share memory", n)
		}
	}
	ideal.Is(r)
	for _, x := range []ideal.Circle{c, copied, ideal.Of(r)} {
		if fault := circleFault(x, twin); fault != "" {
			t.Fatalf("the circle changed: %s", fault)
		}
	}
	for n := range api.MaxNodes {
		p, err := r.Peer(n)
		q, other := twin.Peer(n)
		if !peer.Same(p, q) || api.Of(err) != api.Of(other) {
			t.Fatalf("the ring changed: %v, %v", p, q)
		}
	}
}

// spoil writes over a list and the room behind it.
func spoil(l []int) {
	l = l[:cap(l)]
	for i := range l {
		l[i] = 99
	}
}

// K4: the same ring is answered in the same way.
func TestSameRingSameCircle(t *testing.T) {
	g := rand.New(rand.NewSource(1))
	r := anyRing(t, g)
	for range 200 {
		anyCall(r, g, 40, 50)
		a, b := ideal.Of(r), ideal.Of(r)
		for n := range api.MaxNodes {
			p, one := a.Peer(n)
			q, two := b.Peer(n)
			if !peer.Same(p, q) || one != two || a.Finger(n, n) != b.Finger(n, n) {
				t.Fatalf("%v, then %v", p, q)
			}
		}
	}
}

// P11.1, P11.2: many runs of calls of the ring; behind each call all is held against the chapter's words, and now and then the calm is waited for.
func TestManyRuns(t *testing.T) {
	said := map[bool]int{}
	for seed := range 150 {
		g := rand.New(rand.NewSource(int64(seed)))
		r := anyRing(t, g)
		few, many := 5+g.Intn(20), 20+g.Intn(40)
		for i := range 120 {
			if i < 60 {
				anyCall(r, g, many, many+few)
			} else {
				anyCall(r, g, few, few+many)
			}
			look(t, r)
			said[ideal.Is(r)]++
			if g.Intn(30) == 0 {
				calm(t, r)
			}
		}
		calm(t, r)
		look(t, r)
	}
	if said[true] < 500 || said[false] < 500 {
		t.Errorf("Is said yes %d times, no %d times", said[true], said[false])
	}
}

// P11.2: all addresses at once, in orders that make it last.
func TestCalmOfMany(t *testing.T) {
	for _, c := range []struct {
		name  string
		place func(n int) api.Id
		via   func(n int) int
	}{
		{"rising", func(n int) api.Id { return api.Id(100 * n) }, func(n int) int { return 0 }},
		{"falling", func(n int) api.Id { return api.Id(10000 - 100*n) }, func(n int) int { return 3 }},
		{"to and fro", func(n int) api.Id { return api.Id(10000 + (n%2*2-1)*100*n) }, func(n int) int { return n % 4 }},
		{"one by the other", func(n int) api.Id { return api.Id(100 * n) }, func(n int) int { return n - 1 }},
		{"falling, one by the other", func(n int) api.Id { return api.Id(10000 - 100*n) }, func(n int) int { return n - 1 }},
		{"round the top", func(n int) api.Id { return top - 15 + api.Id(n) }, func(n int) int { return 1 }},
	} {
		r := founded(t, 20000, 20010, 20020, 20030)
		for n := chord.Base; n < api.MaxNodes; n++ {
			if err := r.Join(n, c.place(n), c.via(n)); err != nil {
				t.Fatalf("%s: Join %d: %v", c.name, n, err)
			}
		}
		expectIs(t, r, false, c.name)
		calm(t, r)
		// As many as may go do: of many it isn't known yet who else is behind.
		for n := api.MaxNodes - 1; n >= chord.Base; n-- {
			_ = r.Fail(n)
		}
		calm(t, r)
		look(t, r)
	}
}

// call is one call, to be made on any ring.
type call struct {
	what   byte
	n, via int
	id     api.Id
}

// played: the ring that some calls make.
func played(t *testing.T, run []call) *chord.Ring {
	r := tens(t)
	for _, c := range run {
		switch c.what {
		case 'j':
			_ = r.Join(c.n, c.id, c.via)
		case 'f':
			_ = r.Fail(c.n)
		case 's':
			_ = r.Stabilize(c.n)
		}
	}
	return r
}

// calls: all that may change a ring, with new members at few places.
func calls(r *chord.Ring, next int) []call {
	var l []call
	for _, n := range members(r) {
		l = append(l, call{what: 's', n: n})
		if n >= chord.Base {
			l = append(l, call{what: 'f', n: n})
		}
		for _, id := range []api.Id{22, 25, 28} {
			l = append(l, call{what: 'j', n: next, id: id, via: n})
		}
	}
	return l
}

// state: all that a ring knows, as a text.
func state(r *chord.Ring) string {
	var l []any
	for n := range 10 {
		p, err := r.Peer(n)
		l = append(l, p, err, r.Id(n))
	}
	return fmt.Sprint(l...)
}

// P11.1, P11.2: all that few calls can make of a ring, each state once.
func TestAllShortRuns(t *testing.T) {
	seen := map[string]bool{}
	runs := [][]call{nil}
	for depth := range 5 {
		var longer [][]call
		for _, run := range runs {
			next := chord.Base
			for _, c := range run {
				if c.what == 'j' {
					next = c.n + 1
				}
			}
			for _, c := range calls(played(t, run), next) {
				after := append(slices.Clone(run), c)
				r := played(t, after)
				if key := state(r); !seen[key] {
					seen[key] = true
					longer = append(longer, after)
					look(t, r)
					calm(t, r)
				}
			}
		}
		runs = longer
		t.Logf("%d calls: %d states", depth+1, len(runs))
	}
}
