package world_test

import (
	"slices"

	"wigwag/api"
	"wigwag/bag"
	"wigwag/chord"
	"wigwag/ideal"
	"wigwag/node"
	"wigwag/peer"
	"wigwag/route"
	"wigwag/value"
)

// twin is a world told a second time from the chapter's words, by the layers below it: the packets are a plain list, the nodes stand by their addresses.
type twin struct {
	s       value.Schema
	levels  int
	ring    *chord.Ring
	fingers *route.Fingers
	nodes   [api.MaxNodes]*node.Node
	flight  []bag.Packet
	sent    int // how many packets ever
	now     int
	counts  map[string]int // what was met on the way
}

func newTwin(s value.Schema, levels int, ids []api.Id) *twin {
	r, err := chord.New(ids)
	if err != nil {
		panic(err)
	}
	w := &twin{s: slices.Clone(s), levels: levels, ring: r, fingers: route.New(r), counts: map[string]int{}}
	for n := range ids {
		w.add(n)
	}
	return w
}

func (w *twin) add(n int) {
	x, err := node.New(n, w.s, w.levels)
	if err != nil {
		panic(err)
	}
	w.nodes[n] = x
}

func (w *twin) Next(n int, x api.Id) (int, error) { return w.fingers.Next(n, x) }

func (w *twin) Lives(n int) bool { return n >= 0 && n < len(w.nodes) && w.nodes[n] != nil }

func (w *twin) live() []int {
	var l []int
	for n := range w.nodes {
		if w.Lives(n) {
			l = append(l, n)
		}
	}
	return l
}

// head: the first one behind a member, as far as that knows, that lives.
func (w *twin) head(p peer.Peer) *node.Node {
	for _, n := range p.Succ {
		if w.Lives(n) {
			return w.nodes[n]
		}
	}
	panic("nobody is behind it")
}

func (w *twin) join(n int, id api.Id, via int) error {
	if err := w.ring.Join(n, id, via); err != nil {
		return err
	}
	w.add(n)
	p, _ := w.ring.Peer(n)
	moved := w.head(p).Hand(w.ring.Id(p.Pred), id)
	w.nodes[n].Get(moved)
	w.counts["wishes by a join"] += len(moved)
	return nil
}

// gone: a node leaves, or crashes.
func (w *twin) gone(n int, leaves bool) error {
	p, err := w.ring.Peer(n)
	if err != nil {
		return err
	}
	if err := w.ring.Fail(n); err != nil {
		return err
	}
	x := w.nodes[n]
	w.nodes[n] = nil
	if leaves {
		moved := x.Hand(0, 0)
		w.head(p).Get(moved)
		w.counts["wishes by a leave"] += len(moved)
	}
	before := len(w.flight)
	w.flight = slices.DeleteFunc(w.flight, func(p bag.Packet) bool { return p.To == n })
	w.counts["packets to one who is gone"] += before - len(w.flight)
	return nil
}

func (w *twin) send(p bag.Packet) bool {
	if len(w.flight) == 4000 {
		return false
	}
	w.sent++
	p.Id = w.sent
	w.flight = append(w.flight, p)
	return true
}

func (w *twin) flush() int {
	n := 0
	for from, x := range w.nodes {
		if x == nil {
			continue
		}
		for _, p := range x.Packets() {
			if !w.Lives(p.To) {
				w.counts["flushed to one who is gone"]++
			} else if w.send(bag.Packet{From: from, To: p.To, Text: p.Text}) {
				n++
			} else {
				w.counts["flushed without room"]++
			}
		}
	}
	return n
}

func (w *twin) tick() {
	for _, n := range w.live() {
		_ = w.ring.Stabilize(n)
	}
	for _, n := range w.live() {
		_ = w.fingers.Fix(n)
	}
	w.now++
	for _, x := range w.nodes {
		if x != nil {
			x.Tick(w.now, w)
		}
	}
	w.flush()
}

func (w *twin) take(id int) (bag.Packet, error) {
	for i, p := range w.flight {
		if p.Id == id {
			w.flight = slices.Delete(w.flight, i, i+1)
			return p, nil
		}
	}
	return bag.Packet{}, api.ErrNone
}

func (w *twin) deliver(id int) error {
	p, err := w.take(id)
	if err != nil {
		return err
	}
	if !w.Lives(p.From) {
		return api.ErrDead
	}
	return w.nodes[p.To].Take(p.From, p.Text, w)
}

func (w *twin) copy(id int) error {
	for _, p := range w.flight {
		if p.Id == id {
			if !w.send(p) {
				return api.ErrFull
			}
			return nil
		}
	}
	return api.ErrNone
}

func (w *twin) settle() bool {
	for turn := 1; turn <= 400; turn++ {
		all := w.flight
		w.flight = nil
		for _, p := range all {
			if w.Lives(p.From) {
				_ = w.nodes[p.To].Take(p.From, p.Text, w)
			}
		}
		if w.flush() == 0 && len(w.flight) == 0 {
			return true
		}
	}
	return false
}

func (w *twin) calm(rounds int) bool {
	last := true
	for i := 0; i < rounds && i < 1000; i++ {
		w.tick()
		last = w.settle()
	}
	return last
}

// owner: who of those that live is least far from a place on.
func (w *twin) owner(x api.Id) int {
	l := w.live()
	return slices.MinFunc(l, func(a, b int) int {
		if w.ring.Id(a)-x < w.ring.Id(b)-x {
			return -1
		}
		return 1
	})
}

// ideal: what ideal says, member by member.
func (w *twin) ideal() bool {
	for _, n := range w.live() {
		is, _ := w.ring.Peer(n)
		should, _ := ideal.Of(w.ring).Peer(n)
		if is.Id != should.Id || is.Pred != should.Pred || !slices.Equal(is.Succ, should.Succ) {
			return false
		}
	}
	return true
}

// way: how many nodes there are from one on to the owner, as far as those on the way know.
func (w *twin) way(n int, x api.Id) (int, error) {
	if !w.Lives(n) {
		return 0, api.ErrDead
	}
	for k := 1; k <= 65; k++ {
		next, err := w.Next(n, x)
		if err != nil {
			return 0, err
		}
		if next == n {
			return k, nil
		}
		n = next
	}
	return 0, api.ErrHops
}
