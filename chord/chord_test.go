package chord_test

import (
	"errors"
	"fmt"
	"math/rand"
	"slices"
	"testing"

	"wigwag/api"
	"wigwag/chord"
	"wigwag/peer"
)

// P10.1: the chapter's example.
func TestExample(t *testing.T) {
	b := tens(t)
	b.expectCode("Join", b.join(4, 25, 0), api.OK)
	b.expectPeer(4, 1, 2, 3, 0)
	b.expectPeer(1, 0, 2, 3, 0)
	b.expectPeer(2, 1, 3, 0, 1)
	b.stabilize(4)
	b.expectPeer(4, 1, 2, 3, 0)
	b.expectPeer(2, 4, 3, 0, 1)
	b.stabilize(1)
	b.expectPeer(1, 0, 4, 2, 3)
	b.expectPeer(4, 1, 2, 3, 0)
}

// P10.1
func TestNew(t *testing.T) {
	if chord.Base != 4 {
		t.Fatalf("Base = %d", chord.Base)
	}
	b := tens(t)
	b.expectPeer(0, 3, 1, 2, 3)
	b.expectPeer(1, 0, 2, 3, 0)
	b.expectPeer(2, 1, 3, 0, 1)
	b.expectPeer(3, 2, 0, 1, 2)
	// Places that don't rise with the addresses, at both ends of the circle.
	b = start(t, 1<<63, top, 0, 7)
	b.expectPeer(2, 1, 3, 0, 1)
	b.expectPeer(3, 2, 0, 1, 2)
	b.expectPeer(0, 3, 1, 2, 3)
	b.expectPeer(1, 0, 2, 3, 0)
	start(t, 40, 30, 20, 10)
	start(t, 3, 1, 2, 0)
	start(t, top, top-1, top-2, top-3)
}

// P10.1
func TestNewRefused(t *testing.T) {
	for _, c := range []struct {
		ids  []api.Id
		want api.Code
	}{
		{nil, api.ErrArg}, {[]api.Id{}, api.ErrArg}, {[]api.Id{1}, api.ErrArg}, {[]api.Id{1, 2, 3}, api.ErrArg}, {[]api.Id{1, 2, 3, 4, 5}, api.ErrArg}, {make([]api.Id, 1000), api.ErrArg},
		// Both apply: that there aren't Base places comes first.
		{[]api.Id{1, 1, 1}, api.ErrArg}, {[]api.Id{1, 2, 3, 4, 4}, api.ErrArg}, {[]api.Id{1, 1, 2, 3, 4}, api.ErrArg},
		{[]api.Id{1, 2, 3, 3}, api.ErrCollision}, {[]api.Id{3, 1, 2, 3}, api.ErrCollision}, {[]api.Id{1, 2, 1, 3}, api.ErrCollision}, {[]api.Id{0, 0, 0, 0}, api.ErrCollision}, {[]api.Id{top, 0, 1, top}, api.ErrCollision},
	} {
		if r, err := chord.New(c.ids); r != nil || !errors.Is(err, c.want) || api.Of(err) != c.want {
			t.Errorf("New(%.80s) = %v, %v; not %v", fmt.Sprint(c.ids), r, err, c.want)
		}
	}
}

// P10.1: all orders of four places.
func TestNewInAllOrders(t *testing.T) {
	for a := range 4 {
		for b := range 4 {
			for c := range 4 {
				if d := 6 - a - b - c; a != b && b != c && a != c {
					at := []api.Id{0, 5, 1 << 63, top}
					start(t, at[a], at[b], at[c], at[d])
				}
			}
		}
	}
}

// P10.1: Join's errors, also several at once, so that their order shows.
func TestJoinRefused(t *testing.T) {
	b := tens(t)
	b.join(4, 25, 0)
	b.join(31, 26, 0)
	b.join(6, 27, 0)
	b.fail(6)
	for _, c := range []struct {
		n    int
		id   api.Id
		via  int
		want api.Code
	}{
		{-1, 28, 0, api.ErrArg}, {32, 28, 0, api.ErrArg}, {-2, 28, 0, api.ErrArg}, {33, 28, 0, api.ErrArg}, {1 << 32, 28, 0, api.ErrArg}, {-1 << 63, 28, 0, api.ErrArg}, {1<<63 - 1, 28, 0, api.ErrArg},
		{-1, 10, 0, api.ErrArg}, {-1, 10, 9, api.ErrArg}, {32, 28, 9, api.ErrArg}, {32, 28, 32, api.ErrArg}, {-1, 28, -1, api.ErrArg},
		{0, 28, 0, api.ErrAddrUsed}, {3, 28, 0, api.ErrAddrUsed}, {4, 28, 0, api.ErrAddrUsed}, {31, 28, 0, api.ErrAddrUsed}, {6, 28, 0, api.ErrAddrUsed},
		{4, 28, 9, api.ErrAddrUsed}, {4, 25, 4, api.ErrAddrUsed}, {6, 27, 6, api.ErrAddrUsed}, {6, 10, 9, api.ErrAddrUsed}, {0, 10, -1, api.ErrAddrUsed},
		{9, 28, 8, api.ErrDead}, {9, 28, 9, api.ErrDead}, {9, 28, 6, api.ErrDead}, {9, 28, -1, api.ErrDead}, {9, 28, 32, api.ErrDead}, {9, 28, -1 << 63, api.ErrDead}, {9, 10, 6, api.ErrDead}, {9, 25, 8, api.ErrDead},
		{9, 10, 0, api.ErrCollision}, {9, 40, 0, api.ErrCollision}, {9, 25, 0, api.ErrCollision}, {9, 25, 4, api.ErrCollision}, {9, 26, 31, api.ErrCollision},
	} {
		b.expectCode(fmt.Sprint(c), b.join(c.n, c.id, c.via), c.want)
	}
	b.expectCode("the place of one that went", b.join(9, 27, 4), api.OK)
	b.expectCode("the first address", b.join(5, 0, 31), api.OK)
	if b.r.Id(6) != 27 || b.r.Id(9) != 27 || b.r.Lives(6) || !b.r.Lives(9) {
		t.Error("two that had one place")
	}
}

// P10.1: from via on the first member is taken, though another one may lie nearer.
func TestJoinFromVia(t *testing.T) {
	for via := range chord.Base {
		b := tens(t)
		for i, c := range []struct {
			id   api.Id
			pred int
			succ []int
		}{
			{15, 0, []int{1, 2, 3}}, {25, 1, []int{2, 3, 0}}, {35, 2, []int{3, 0, 1}}, {41, 3, []int{0, 1, 2}}, {0, 3, []int{0, 1, 2}}, {top, 3, []int{0, 1, 2}}, {9, 3, []int{0, 1, 2}}, {11, 0, []int{1, 2, 3}}, {19, 0, []int{1, 2, 3}},
		} {
			b.expectCode("Join", b.join(4+i, c.id, via), api.OK)
			b.expectPeer(4+i, c.pred, c.succ...)
		}
	}
	b := tens(t)
	b.join(4, 22, 0)
	b.join(5, 26, 0)
	b.expectPeer(5, 1, 2, 3, 0)
	b.join(6, 28, 4)
	b.expectPeer(6, 4, 2, 3, 0)
	// 24 isn't behind 5, but one comes from it round the circle to 1; from 4 on it is met at once.
	b.join(7, 24, 5)
	b.expectPeer(7, 1, 2, 3, 0)
	b.join(8, 25, 4)
	b.expectPeer(8, 4, 2, 3, 0)
}

// P10.1: the Succ of at is taken over as it is, its dead ones too; who is behind it is its head.
func TestJoinBehindDead(t *testing.T) {
	b := tens(t)
	b.join(4, 23, 0)
	b.stabilize(1)
	b.stabilize(4)
	b.stabilize(1)
	b.expectPeer(1, 0, 4, 2, 3)
	b.fail(4)
	for i, id := range []api.Id{22, 24, 23} {
		b.expectCode("Join", b.join(5+i, id, 0), api.OK)
		b.expectPeer(5+i, 1, 4, 2, 3)
	}
	b.stabilize(5)
	b.expectPeer(5, 1, 2, 3, 0)
}

// P10.1
func TestFail(t *testing.T) {
	b := tens(t)
	for n := range chord.Base {
		b.expectCode("a base member", b.fail(n), api.ErrBusy)
	}
	for _, n := range append([]int{4, 31}, wrong...) {
		b.expectCode("one that never was", b.fail(n), api.ErrDead)
	}
	b.join(4, 25, 0)
	b.expectCode("one of which nobody knows", b.fail(4), api.OK)
	b.expectCode("once more", b.fail(4), api.ErrDead)
	if b.r.Id(4) != 25 {
		t.Errorf("Id = %d", b.r.Id(4))
	}
	b.expectCode("again", b.join(4, 25, 0), api.ErrAddrUsed)
	b.expectCode("as via", b.join(5, 26, 4), api.ErrDead)
	b.expectCode("Stabilize", b.stabilize(4), api.ErrDead)
}

// P10.1: nobody goes whose going would leave a member without a head.
func TestFailOfTheLastHead(t *testing.T) {
	b := tens(t)
	for i, id := range []api.Id{22, 24, 26} {
		b.join(4+i, id, 0)
	}
	for range 6 {
		b.round()
	}
	b.expectPeer(1, 0, 4, 5, 6)
	b.expectCode("the second", b.fail(5), api.OK)
	b.expectCode("the first", b.fail(4), api.OK)
	b.expectCode("the last", b.fail(6), api.ErrBusy)
	b.expectCode("the last, again", b.fail(6), api.ErrBusy)
	// One that has just come knows no more than the one ahead of it, and would be left as well.
	b.join(7, 21, 1)
	b.expectPeer(7, 1, 4, 5, 6)
	b.stabilize(1)
	b.expectPeer(1, 0, 6, 2, 3)
	b.expectCode("the last of another one", b.fail(6), api.ErrBusy)
	b.stabilize(7)
	b.expectCode("when all know more", b.fail(6), api.OK)
	b.expectPeer(1, 0, 6, 2, 3)
	b.expectPeer(7, 1, 6, 2, 3)
	b.stabilize(7)
	b.expectPeer(7, 1, 2, 3, 0)
	b.expectPeer(2, 7, 3, 0, 1)
}

// P10.1: one whose own head is its last may go itself.
func TestFailOfOneWithOneHead(t *testing.T) {
	b := tens(t)
	for i, id := range []api.Id{22, 24, 26} {
		b.join(4+i, id, 0)
	}
	for range 6 {
		b.round()
	}
	b.join(7, 21, 1)
	b.expectPeer(7, 1, 4, 5, 6)
	b.fail(4)
	b.fail(5)
	b.stabilize(1)
	b.expectCode("7 needs 6", b.fail(6), api.ErrBusy)
	b.expectCode("7 itself goes", b.fail(7), api.OK)
	b.expectCode("nobody needs 6", b.fail(6), api.OK)
}

// P10.1
func TestStabilize(t *testing.T) {
	b := tens(t)
	for _, n := range append([]int{4, 31}, wrong...) {
		b.expectCode("one that never was", b.stabilize(n), api.ErrDead)
	}
	for n := range chord.Base {
		b.expectCode("all is as it should be", b.stabilize(n), api.OK)
		b.expectPeer(n, (n+3)%4, (n+1)%4, (n+2)%4, (n+3)%4)
	}
	b.join(4, 26, 0)
	b.join(5, 24, 0)
	// Nobody told 2 of them: 1 keeps its head, and so does 5.
	b.stabilize(1)
	b.expectPeer(1, 0, 2, 3, 0)
	b.stabilize(4)
	b.expectPeer(2, 4, 3, 0, 1)
	// 5 finds 4, and tells it, not 2.
	b.stabilize(5)
	b.expectPeer(5, 1, 4, 2, 3)
	b.expectPeer(4, 5, 2, 3, 0)
	b.expectPeer(2, 4, 3, 0, 1)
	// 1 finds 4, of which 5 told that it is ahead; the next time it finds 5.
	b.stabilize(1)
	b.expectPeer(1, 0, 4, 2, 3)
	b.expectPeer(4, 5, 2, 3, 0)
	b.stabilize(1)
	b.expectPeer(1, 0, 5, 4, 2)
	// 5 goes: who knew of it takes the next one, which forgets it.
	b.fail(5)
	b.expectPeer(4, 5, 2, 3, 0)
	b.stabilize(1)
	b.expectPeer(1, 0, 4, 2, 3)
	b.expectPeer(4, 1, 2, 3, 0)
	// 4 goes, whom 2 thinks to be ahead: 2 takes any that tells it.
	b.fail(4)
	b.stabilize(1)
	b.expectPeer(1, 0, 2, 3, 0)
	b.expectPeer(2, 1, 3, 0, 1)
}

// P10.1: Round is Stabilize of all that live, by rising addresses: another order would leave another ring.
func TestRound(t *testing.T) {
	b := tens(t)
	b.join(5, 24, 0)
	b.join(4, 26, 0)
	b.join(7, 35, 0)
	b.join(9, 22, 0)
	b.fail(7)
	b.round()
	b.expectPeer(1, 0, 2, 3, 0)
	b.expectPeer(4, 5, 2, 3, 0)
	b.expectPeer(5, 1, 4, 2, 3)
	b.expectPeer(9, 1, 4, 2, 3)
	b.expectPeer(2, 4, 3, 0, 1)
	for range 8 {
		b.round()
	}
	b.expectPeer(1, 0, 9, 5, 4)
	b.expectPeer(9, 1, 5, 4, 2)
	b.expectPeer(5, 9, 4, 2, 3)
	b.expectPeer(4, 5, 2, 3, 0)
	b.expectPeer(2, 4, 3, 0, 1)
	b.expectPeer(0, 3, 1, 9, 5)
}

// P10.1, P10.3: all addresses; the way from via to the place is as long as it can be.
func TestJoinTheLongWay(t *testing.T) {
	settled := tens(t)
	for n := 4; n < 31; n++ {
		settled.join(n, api.Id(100*n), 0)
	}
	for range 40 {
		settled.round()
	}
	settled.expectPeer(30, 29, 0, 1, 2)
	settled.expectCode("just ahead of via, on the ring", settled.join(31, 1499, 15), api.OK)
	settled.expectPeer(31, 14, 15, 16, 17)

	hanging := tens(t)
	for n := 4; n < 31; n++ {
		hanging.join(n, api.Id(1000-n), 3)
		for range n {
			hanging.stabilize(n)
		}
	}
	hanging.expectPeer(3, 2, 0, 1, 2)
	hanging.expectPeer(30, 3, 29, 28, 27)
	hanging.expectCode("just ahead of via, which hangs far away", hanging.join(31, 1000-31, 30), api.OK)
	hanging.expectPeer(31, 3, 0, 1, 2)
	for n := range api.MaxNodes {
		hanging.expectCode("no address is left", hanging.join(n, 5000, 0), api.ErrAddrUsed)
	}
}

// K3: answers are new memory, and what was handed in is neither changed nor kept.
func TestMemory(t *testing.T) {
	room := []api.Id{40, 10, 30, 20, 77, 77}
	r, err := chord.New(room[:4])
	if err != nil || !slices.Equal(room, []api.Id{40, 10, 30, 20, 77, 77}) {
		t.Fatalf("New: %v, %v", room, err)
	}
	clear(room)
	b := &both{t: t, r: r, m: founded([]api.Id{40, 10, 30, 20})}
	b.look()
	b.join(4, 25, 0)
	b.join(5, 26, 4)
	for range 5 {
		for n := range 6 {
			first, _ := r.Peer(n)
			second, _ := r.Peer(n)
			spoil(first.Succ)
			if slices.Contains(second.Succ, 99) {
				t.Fatalf("two answers of Peer(%d) share memory", n)
			}
			b.look()
		}
		first, second := r.Live(), r.Live()
		spoil(first)
		if slices.Contains(second, 99) {
			t.Fatal("two answers of Live share memory")
		}
		b.look()
		b.round()
	}
}

func spoil(l []int) {
	for i := range l {
		l[i] = 99
	}
	_ = append(l, 99, 99, 99, 99)
}

// P10.1: two rings are two.
func TestRingsAreApart(t *testing.T) {
	a, b := tens(t), tens(t)
	a.join(4, 25, 0)
	a.round()
	b.look()
	b.expectCode("Join", b.join(4, 35, 0), api.OK)
	a.fail(4)
	b.look()
	a.look()
}

// drawn: a place near one of few, so that places come again, and many lie side by side.
func drawn(r *rand.Rand) api.Id {
	return []api.Id{0, 1 << 20, 1 << 62, top - 5}[r.Intn(4)] + api.Id(r.Intn(12))
}

// anyCall makes one call, and tells its name and code; so many of a hundred are Join, and so many Join or Fail.
func anyCall(b *both, r *rand.Rand, joins, goings int) string {
	n, via := r.Intn(44)-6, r.Intn(44)-6
	if live := b.m.live(); r.Intn(8) > 0 {
		n, via = live[r.Intn(len(live))], live[r.Intn(len(live))]
	}
	switch k := r.Intn(100); {
	case k < joins:
		if free := slices.IndexFunc(b.m[:], func(s seat) bool { return !s.was }); r.Intn(4) > 0 && free >= 0 {
			n = free
		}
		return fmt.Sprint("Join ", b.join(n, drawn(r), via))
	case k < goings:
		if live := b.m.live(); r.Intn(4) > 0 {
			n = live[len(live)/2+r.Intn(len(live)-len(live)/2)]
		}
		code := b.fail(n)
		if n < chord.Base && code == api.ErrBusy {
			return "Fail base"
		}
		return fmt.Sprint("Fail ", code)
	case k < 97:
		return fmt.Sprint("Stabilize ", b.stabilize(n))
	}
	b.round()
	return "Round"
}

// P10.1, P10.2, P10.3: many runs of calls, each call held against the model, and the ring looked at behind each.
func TestManyRuns(t *testing.T) {
	counts := map[string]int{}
	for seed := range 400 {
		r := rand.New(rand.NewSource(int64(seed)))
		var ids []api.Id
		for len(ids) < chord.Base {
			if id := drawn(r); !slices.Contains(ids, id) {
				ids = append(ids, id)
			}
		}
		b := start(t, ids...)
		few, many := 5+r.Intn(20), 20+r.Intn(40)
		for range 60 {
			counts[anyCall(b, r, many, many+few)]++
		}
		for range 100 {
			counts[anyCall(b, r, few, few+many)]++
		}
	}
	for _, what := range []string{"Join ok", "Join arg", "Join used", "Join dead", "Join collision", "Fail ok", "Fail dead", "Fail base", "Fail busy", "Stabilize ok", "Stabilize dead", "Round"} {
		if counts[what] < 30 {
			t.Errorf("%s: only %d times", what, counts[what])
		}
	}
}

// call is one call, to be made on any ring.
type call struct {
	what   byte
	n, via int
	id     api.Id
}

func (b *both) make(c call) {
	switch c.what {
	case 'j':
		b.join(c.n, c.id, c.via)
	case 'f':
		b.fail(c.n)
	case 's':
		b.stabilize(c.n)
	}
}

// calls: all that may change a ring, with new members at few places.
func calls(m *model) []call {
	var l []call
	next := slices.IndexFunc(m[:], func(s seat) bool { return !s.was })
	for _, n := range m.live() {
		l = append(l, call{what: 's', n: n})
		if n >= chord.Base {
			l = append(l, call{what: 'f', n: n})
		}
		for _, id := range []api.Id{22, 25, 28} {
			if next < 8 {
				l = append(l, call{what: 'j', n: next, id: id, via: n})
			}
		}
	}
	return l
}

// P10.1, P10.2, P10.3: all that few calls can make of a ring, each state once.
func TestAllShortRuns(t *testing.T) {
	seen := map[string]bool{}
	runs := [][]call{nil}
	for depth := range 6 {
		var longer [][]call
		for _, run := range runs {
			b := founded([]api.Id{10, 20, 30, 40})
			replay(b, run)
			for _, c := range calls(b) {
				after := b.copied()
				replay(&after, []call{c})
				if key := fmt.Sprint(after); !seen[key] {
					seen[key] = true
					longer = append(longer, append(slices.Clone(run), c))
				}
			}
		}
		runs = longer
		for _, run := range runs {
			b := tens(t)
			for _, c := range run {
				b.make(c)
			}
		}
		t.Logf("%d calls: %d states", depth+1, len(runs))
	}
}

// replay makes calls on the model alone.
func replay(m *model, run []call) {
	for _, c := range run {
		switch c.what {
		case 'j':
			m.join(c.n, c.id, c.via)
		case 'f':
			m.fail(c.n)
		case 's':
			m.stabilize(c.n)
		}
	}
}

// K4: the same calls are answered in the same way.
func TestSameCallsSameRing(t *testing.T) {
	for seed := range 20 {
		a, b := tens(t), tens(t)
		one, two := rand.New(rand.NewSource(int64(seed))), rand.New(rand.NewSource(int64(seed)))
		for range 100 {
			if x, y := anyCall(a, one, 25, 45), anyCall(b, two, 25, 45); x != y {
				t.Fatalf("%s, then %s", x, y)
			}
			for n := range api.MaxNodes {
				p, _ := a.r.Peer(n)
				q, _ := b.r.Peer(n)
				if !peer.Same(p, q) {
					t.Fatalf("%d: %v, then %v", n, p, q)
				}
			}
		}
	}
}
