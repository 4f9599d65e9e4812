package chord_test

import (
	"errors"
	"fmt"
	"math"
	"math/bits"
	"slices"
	"testing"

	"wigwag/api"
	"wigwag/chord"
	"wigwag/peer"
)

const top = math.MaxUint64

// wrong are ints that no member has as its address.
var wrong = []int{peer.None, -2, -32, 32, 33, 64, 1 << 40, math.MinInt, math.MaxInt}

// seat is what there is of one address.
type seat struct {
	was, lives bool
	p          peer.Peer
}

// model is a ring told a second time from the chapter's words: seats by their addresses.
type model [api.MaxNodes]seat

// copied: a model in memory of its own.
func (m *model) copied() model {
	c := *m
	for n := range c {
		c[n].p.Succ = slices.Clone(c[n].p.Succ)
	}
	return c
}

func (m *model) lives(n int) bool { return n >= 0 && n < len(m) && m[n].lives }

func (m *model) live() []int {
	var l []int
	for n := range m {
		if m[n].lives {
			l = append(l, n)
		}
	}
	return l
}

// between: is x met behind a and ahead of b?
func between(x, a, b api.Id) bool {
	switch {
	case x == a || x == b:
		return false
	case a < b:
		return a < x && x < b
	}
	return a < x || x < b
}

// founded: the members 0 to 3 at places that differ.
func founded(ids []api.Id) *model {
	var m model
	for n, id := range ids {
		var others []int
		for o := range ids {
			if o != n {
				others = append(others, o)
			}
		}
		slices.SortFunc(others, func(a, b int) int {
			if ids[a]-id < ids[b]-id {
				return -1
			}
			return 1
		})
		m[n] = seat{was: true, lives: true, p: peer.Peer{Id: id, Pred: others[2], Succ: others}}
	}
	return &m
}

func (m *model) head(n int) int {
	for _, s := range m[n].p.Succ {
		if m.lives(s) {
			return s
		}
	}
	return peer.None
}

func (m *model) join(n int, id api.Id, via int) api.Code {
	if n < 0 || n > 31 {
		return api.ErrArg
	}
	if m[n].was {
		return api.ErrAddrUsed
	}
	if !m.lives(via) {
		return api.ErrDead
	}
	for _, o := range m.live() {
		if m[o].p.Id == id {
			return api.ErrCollision
		}
	}
	for at, steps := via, 0; steps < 33; steps++ {
		head := m.head(at)
		if between(id, m[at].p.Id, m[head].p.Id) {
			m[n] = seat{was: true, lives: true, p: peer.Peer{Id: id, Pred: at, Succ: slices.Clone(m[at].p.Succ)}}
			return api.OK
		}
		at = head
	}
	return api.ErrBusy
}

func (m *model) fail(n int) api.Code {
	if !m.lives(n) {
		return api.ErrDead
	}
	if n <= 3 {
		return api.ErrBusy
	}
	rest := m.copied()
	rest[n].lives = false
	for _, o := range rest.live() {
		if rest.head(o) == peer.None {
			return api.ErrBusy
		}
	}
	*m = rest
	return api.OK
}

// follow: s and those behind it, as s knows.
func (m *model) follow(s int) []int {
	l := append([]int{s}, m[s].p.Succ...)
	return slices.Clone(l[:min(len(l), 3)])
}

func (m *model) stabilize(n int) api.Code {
	if !m.lives(n) {
		return api.ErrDead
	}
	s := m.head(n)
	m[n].p.Succ = m.follow(s)
	if q := m[s].p.Pred; m.lives(q) && between(m[q].p.Id, m[n].p.Id, m[s].p.Id) {
		s = q
		m[n].p.Succ = m.follow(q)
	}
	if old := m[s].p.Pred; !m.lives(old) || between(m[n].p.Id, m[old].p.Id, m[s].p.Id) {
		m[s].p.Pred = n
	}
	return api.OK
}

// both is a ring and its model, on which the same calls are made.
type both struct {
	t    *testing.T
	r    *chord.Ring
	m    *model
	told []string // the calls, for what is told of a fault
}

func start(t *testing.T, ids ...api.Id) *both {
	t.Helper()
	r, err := chord.New(ids)
	if err != nil || r == nil {
		t.Fatalf("New(%v): %v", ids, err)
	}
	b := &both{t: t, r: r, m: founded(ids), told: []string{fmt.Sprint("New ", ids)}}
	b.look()
	return b
}

// tens: the base members of the chapter's example.
func tens(t *testing.T) *both {
	t.Helper()
	return start(t, 10, 20, 30, 40)
}

func (b *both) join(n int, id api.Id, via int) api.Code {
	b.t.Helper()
	return b.settle(fmt.Sprintf("Join(%d, %d, %d)", n, id, via), b.r.Join(n, id, via), b.m.join(n, id, via))
}

func (b *both) fail(n int) api.Code {
	b.t.Helper()
	return b.settle(fmt.Sprintf("Fail(%d)", n), b.r.Fail(n), b.m.fail(n))
}

func (b *both) stabilize(n int) api.Code {
	b.t.Helper()
	return b.settle(fmt.Sprintf("Stabilize(%d)", n), b.r.Stabilize(n), b.m.stabilize(n))
}

func (b *both) round() {
	b.t.Helper()
	b.r.Round()
	for _, n := range b.m.live() {
		b.m.stabilize(n)
	}
	b.settle("Round", nil, api.OK)
}

// settle holds a call's error against its code, and what there is behind it against the model.
func (b *both) settle(call string, err error, want api.Code) api.Code {
	b.t.Helper()
	b.told = append(b.told, call)
	if want == api.OK && err != nil || want != api.OK && !errors.Is(err, want) || api.Of(err) != want {
		b.t.Fatalf("%v: %v, not %v", b.told, err, want)
	}
	if want == api.ErrBusy && call[0] == 'J' {
		b.t.Fatalf("P10.3: %v", b.told)
	}
	b.look()
	return want
}

// look asks all that the ring tells.
func (b *both) look() {
	b.t.Helper()
	for n := range b.m {
		s := b.m[n]
		if b.r.Lives(n) != s.lives || b.r.Id(n) != s.p.Id {
			b.t.Fatalf("%v: %d: Lives %v, Id %d; not %v, %d", b.told, n, b.r.Lives(n), b.r.Id(n), s.lives, s.p.Id)
		}
		p, err := b.r.Peer(n)
		if s.lives && (err != nil || !peer.Same(p, s.p)) {
			b.t.Fatalf("%v: Peer(%d) = %v, %v; not %v", b.told, n, p, err, s.p)
		}
		if !s.lives {
			b.expectNoPeer(n)
		}
	}
	for _, n := range wrong {
		if b.r.Lives(n) || b.r.Id(n) != 0 {
			b.t.Fatalf("%v: %d: Lives %v, Id %d", b.told, n, b.r.Lives(n), b.r.Id(n))
		}
		b.expectNoPeer(n)
	}
	if got := b.r.Live(); !slices.Equal(got, b.m.live()) {
		b.t.Fatalf("%v: Live = %v, not %v", b.told, got, b.m.live())
	}
	if fault := brokenRing(b.r); fault != "" {
		b.t.Fatalf("P10.2: %v: %s", b.told, fault)
	}
}

func (b *both) expectNoPeer(n int) {
	b.t.Helper()
	if p, err := b.r.Peer(n); !errors.Is(err, api.ErrDead) || p.Id != 0 || p.Pred != 0 || len(p.Succ) != 0 {
		b.t.Fatalf("%v: Peer(%d) = %v, %v", b.told, n, p, err)
	}
}

func (b *both) expectPeer(n, pred int, succ ...int) {
	b.t.Helper()
	if p, err := b.r.Peer(n); err != nil || p.Pred != pred || !slices.Equal(p.Succ, succ) || p.Id != b.r.Id(n) {
		b.t.Fatalf("%v: Peer(%d) = %v, %v; not %d, %v", b.told, n, p, err, pred, succ)
	}
}

func (b *both) expectCode(what string, got, want api.Code) {
	b.t.Helper()
	if got != want {
		b.t.Fatalf("%v: %s: %v, not %v", b.told, what, got, want)
	}
}

// brokenRing looks at P10.2 by the ring's own answers, member by member; "", if it holds.
func brokenRing(r *chord.Ring) string {
	heads := map[int]int{}
	for _, n := range r.Live() {
		p, err := r.Peer(n)
		if err != nil {
			return fmt.Sprintf("%d: %v", n, err)
		}
		if heads[n] = peer.Head(p, r); heads[n] == peer.None {
			return fmt.Sprintf("%d has no head", n)
		}
	}
	for n := range heads {
		met := map[int]bool{}
		for at, steps := n, 0; steps <= len(heads); steps++ {
			met[at] = true
			at = heads[at]
		}
		for base := range chord.Base {
			if !met[base] {
				return fmt.Sprintf("from %d one doesn't come to %d", n, base)
			}
		}
	}
	for base := range chord.Base {
		if fault := notOnce(r, heads, base); fault != "" {
			return fault
		}
	}
	return ""
}

// notOnce: the ways from head to head, from a base member till it is met again, are together just the circle.
func notOnce(r *chord.Ring, heads map[int]int, base int) string {
	var rounds, far uint64
	for at, steps := base, 0; steps == 0 || at != base; steps++ {
		if steps > len(heads) {
			return fmt.Sprintf("from %d one doesn't come back", base)
		}
		sum, carry := bits.Add64(far, uint64(r.Id(heads[at])-r.Id(at)), 0)
		far, rounds = sum, rounds+carry
		at = heads[at]
	}
	if rounds != 1 || far != 0 {
		return fmt.Sprintf("from %d one goes round %d times, and %d", base, rounds, far)
	}
	return ""
}
