package tree_test

import (
	"errors"
	"slices"
	"testing"

	"wigwag/api"
	"wigwag/chord"
	"wigwag/ideal"
	"wigwag/tree"
)

// errOwn is a walker's error that has no code.
var errOwn = errors.New("no code")

// steady answers a node in the same way each time; where there is an error, a next one stands beside it.
type steady map[int]step

func (w steady) Next(n int, x api.Id) (int, error) {
	s, here := w[n]
	if !here {
		return n, errOwn
	}
	return s.next, s.err
}

// anyWays: of few nodes, with so many of a hundred that answer an error, and as many that are their own next.
func (d draw) anyWays(nodes []int, errs, roots int) steady {
	w := steady{}
	for i, n := range nodes {
		s := step{from: n, next: one(d, nodes)}
		// Often towards one end, so that many come to it.
		if d.Intn(4) > 0 {
			s.next = nodes[d.Intn(i+1)]
		}
		if s.next == n && d.Intn(3) > 0 {
			s.next = nodes[0]
		}
		if d.Intn(100) < errs {
			s.err = one(d, []error{errLost, errOwn, api.ErrDead, api.ErrNone})
		}
		if d.Intn(100) < roots {
			s.next = n
		}
		w[n] = s
	}
	return w
}

// outcome: in a word, what came of a call.
func outcome(x tree.Tree, err error, members int) string {
	switch {
	case err == nil && members == 0:
		return "no member"
	case err == nil:
		return "a tree"
	case err == errLost || err == errOwn:
		return "the walker's error"
	}
	return api.Of(err).Error()
}

// P20.1: many walkers that answer anything, but of a node the same each time: Of, and what is answered of its trees.
func TestSteadyWalkers(t *testing.T) {
	t.Parallel()
	came := map[string]int{}
	d := newDraw(1)
	for range 15000 {
		nodes := slices.Clone(few)
		d.Shuffle(len(nodes), func(i, j int) { nodes[i], nodes[j] = nodes[j], nodes[i] })
		nodes = nodes[:1+d.Intn(len(nodes))]
		w := d.anyWays(nodes, one(d, []int{0, 0, 3, 10}), one(d, []int{0, 3, 10}))
		name, c := d.name(), d.circle(t)
		members := d.pick(nodes, one(d, []int{1, 3, 30}))
		want := steadily(w, name, members)
		x, err := tree.Of(w, name, members)
		if fault := want.fault(x, err); fault != "" {
			t.Fatalf("%v, %v: %s", w, members, fault)
		}
		came[outcome(x, err, len(members))]++
		if err == nil {
			// Often the root is the one that it should be.
			for tries := 0; tries < 6 && plainOwner(c, name) != x.Root; tries++ {
				c = d.circle(t)
			}
			came["Check: "+lookTree(t, x, c, name).Error()]++
		}
	}
	met(t, came, 100, "no member", "a tree", "the walker's error", "busy", "hops", "dead", "Check: form", "Check: hops", "Check: ok")
}

// fickle answers anew each time, and notes what it said.
type fickle struct {
	draw
	nodes []int
	log   []step
	errs  int // of a thousand
}

func (w *fickle) Next(n int, x api.Id) (int, error) {
	s := step{from: n, next: one(w.draw, w.nodes)}
	switch k := w.Intn(1000); {
	case k < w.errs:
		s.err = one(w.draw, []error{errLost, errOwn, api.ErrDead})
	case k < 100:
		s.next = n
	}
	w.log = append(w.log, s)
	return s.next, s.err
}

// P20.1: walkers that don't stick to what they said: nobody is asked twice, and what they said once holds.
func TestFickleWalkers(t *testing.T) {
	t.Parallel()
	came := map[string]int{}
	d := newDraw(2)
	for range 30000 {
		w := &fickle{draw: d, nodes: few[:1+d.Intn(len(few))], errs: one(d, []int{0, 0, 20})}
		members := d.pick(w.nodes, one(d, []int{1, 3, 30}))
		x, err := tree.Of(w, d.name(), members)
		want, asked := replayed(w.log, members)
		if asked != len(w.log) {
			t.Fatalf("%v, %v: asked for %d, not %d", members, w.log, len(w.log), asked)
		}
		if fault := want.fault(x, err); fault != "" {
			t.Fatalf("%v, %v: %s", members, w.log, fault)
		}
		came[outcome(x, err, len(members))]++
	}
	met(t, came, 100, "no member", "a tree", "the walker's error", "busy", "hops", "dead")
}

// P20.1: ways about as long as they may be, that join one another anywhere.
func TestLongWalks(t *testing.T) {
	t.Parallel()
	came := map[string]int{}
	d := newDraw(3)
	for range 3000 {
		w := steady{}
		length := 50 + d.Intn(150)
		for n := range length {
			w[n] = step{from: n, next: max(0, n-1-d.Intn(d.Intn(3)+1))}
		}
		for range d.Intn(2) {
			n := d.Intn(length)
			w[n] = step{from: n, next: n, err: one(d, []error{nil, errLost})}
		}
		all := make([]int, length)
		for n := range all {
			all[n] = n
		}
		members, name := d.pick(all, 6), d.name()
		want := steadily(w, name, members)
		x, err := tree.Of(w, name, members)
		if fault := want.fault(x, err); fault != "" {
			t.Fatalf("%v, %v: %s", w, members, fault)
		}
		came[outcome(x, err, len(members))]++
		if err == nil && slices.ContainsFunc(x.Nodes(), func(n int) bool { return x.Depth(n) < 0 }) {
			came["cut off"]++
		}
	}
	met(t, came, 50, "no member", "a tree", "the walker's error", "busy", "hops", "cut off")
}

// circle: of some ring; now and then nobody's.
func (d draw) circle(t *testing.T) ideal.Circle {
	if d.Intn(20) == 0 {
		return ideal.Circle{}
	}
	r, err := chord.New([]api.Id{api.Id(d.Uint64()), api.Id(d.Uint64()), api.Id(d.Uint64()), api.Id(d.Uint64())})
	if err != nil {
		t.Fatal(err)
	}
	for n := range d.Intn(8) {
		if err := r.Join(4+n, api.Id(d.Uint64()), 0); err != nil {
			t.Fatal(err)
		}
	}
	return ideal.Of(r)
}

// P20.1: trees that anybody made: all that they may be asked.
func TestAnyTrees(t *testing.T) {
	t.Parallel()
	came := map[string]int{}
	d := newDraw(4)
	for range 20000 {
		c, name := d.circle(t), d.name()
		x := tree.Tree{Root: one(d, few), Up: map[int]int{}}
		if d.Intn(2) == 0 {
			x.Root = plainOwner(c, name)
		}
		nodes := few[:1+d.Intn(len(few))]
		for range d.Intn(2 * len(nodes)) {
			n := one(d, nodes)
			if n == x.Root && d.Intn(8) > 0 {
				continue
			}
			x.Up[n] = one(d, nodes)
			if d.Intn(3) > 0 {
				x.Up[n] = x.Root
			}
		}
		came[lookTree(t, x, c, name).Error()]++
	}
	met(t, came, 500, "ok", "form", "hops")
}
