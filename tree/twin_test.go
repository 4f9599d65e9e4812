package tree_test

import (
	"fmt"
	"maps"
	"math"
	"math/rand"
	"slices"
	"strings"
	"testing"

	"wigwag/api"
	"wigwag/ideal"
	"wigwag/peer"
	"wigwag/ring"
	"wigwag/tree"
)

// draw is dice that know what trees are made of.
type draw struct {
	*rand.Rand
}

func newDraw(seed int) draw { return draw{rand.New(rand.NewSource(int64(seed)))} }

func one[T any](d draw, l []T) T { return l[d.Intn(len(l))] }

// name: of a group, or any text.
func (d draw) name() string {
	if d.Intn(10) == 0 {
		return one(d, []string{"", "g", ".", "\x00", "\xff\xfe", strings.Repeat("long", 100)})
	}
	return fmt.Sprintf("%s.%d.%d", one(d, []string{"price", "tag", "a", "x1"}), d.Intn(9), d.Intn(256))
}

// pick: some of a list, in any order; some of them twice.
func (d draw) pick(l []int, most int) []int {
	out := make([]int, 0, most+2)
	for range d.Intn(most + 1) {
		out = append(out, one(d, l))
	}
	return out
}

// step is what a walker answered.
type step struct {
	from, next int
	err        error
}

// told is what Of should answer, told a second time: as lists.
type told struct {
	roots []int // those that are their own next, as they were met
	edges []step
	err   error
}

// has: was a node looked at already?
func (x *told) has(n int) bool {
	return slices.Contains(x.roots, n) || slices.ContainsFunc(x.edges, func(s step) bool { return s.from == n })
}

// take: one more step; does the way go on, and is all well?
func (x *told) take(s step) (bool, bool) {
	switch {
	case s.err != nil:
		x.err = s.err
		return false, false
	case s.next != s.from:
		x.edges = append(x.edges, s)
		return true, true
	}
	x.roots = append(x.roots, s.from)
	if len(x.roots) > 1 {
		x.err = api.ErrBusy
	}
	return false, x.err == nil
}

// end: behind all members.
func (x *told) end(members int) {
	if members > 0 && (len(x.roots) == 0 || x.roots[0] == peer.None) {
		x.err = api.ErrHops
	}
}

// steadily: what Of should answer of a walker that answers a node in the same way each time: each member's whole way is gone, whatever is there already, and what is there already left out behind.
func steadily(w tree.Walker, name string, members []int) *told {
	x := &told{}
	for _, m := range members {
		for _, s := range wholeWay(w, ring.Hash("group "+name), m) {
			if x.has(s.from) {
				break
			}
			if _, well := x.take(s); !well {
				return x
			}
		}
	}
	x.end(len(members))
	return x
}

// wholeWay: a node's way, up to an error, to one that is its own next, or to 66 steps.
func wholeWay(w tree.Walker, key api.Id, n int) []step {
	var l []step
	for len(l) < 66 {
		next, err := w.Next(n, key)
		l = append(l, step{n, next, err})
		if err != nil || next == n {
			return l
		}
		n = next
	}
	return l
}

// replayed: what Of should answer of a walker that answered so, one answer behind the other; and how many of them it should have asked for.
func replayed(log []step, members []int) (*told, int) {
	x, at := &told{}, 0
	for _, m := range members {
		n := m
		for steps := 0; steps < 66 && !x.has(n); steps++ {
			if at == len(log) || log[at].from != n {
				return x, -1
			}
			s := log[at]
			at++
			goes, well := x.take(s)
			if !well {
				return x, at
			}
			if !goes {
				break
			}
			n = s.next
		}
	}
	x.end(len(members))
	return x, at
}

// fault holds an answer of Of against what is told; "", if they agree.
func (x *told) fault(got tree.Tree, err error) string {
	if x.err != nil {
		if err != x.err || got.Root != 0 || got.Up != nil {
			return fmt.Sprintf("%v, %v; not %v", got, err, x.err)
		}
		return ""
	}
	root, up := peer.None, map[int]int{}
	if len(x.roots) > 0 {
		root = x.roots[0]
	}
	for _, s := range x.edges {
		up[s.from] = s.next
	}
	if err != nil || got.Root != root || got.Up == nil || !maps.Equal(got.Up, up) {
		return fmt.Sprintf("%v, %v; not %d, %v", got, err, root, up)
	}
	return ""
}

// plain is a tree as a list of who tells whom.
type plain struct {
	root  int
	tells [][2]int
}

func plainOf(x tree.Tree) plain {
	p := plain{root: x.Root}
	for n, up := range x.Up {
		p.tells = append(p.tells, [2]int{n, up})
	}
	return p
}

// around: all ints that a tree speaks of, rising, and some that it doesn't.
func (p plain) around() []int {
	l := append([]int{p.root, p.root - 1, p.root + 1}, odd...)
	for _, x := range p.tells {
		l = append(l, x[0], x[1], x[0]+1)
	}
	slices.Sort(l)
	return slices.Compact(l)
}

// those: of some ints, in order, those of which it is true.
func those(l []int, is func(n int) bool) []int {
	var out []int
	for _, n := range l {
		if is(n) {
			out = append(out, n)
		}
	}
	return out
}

func (p plain) upOf(n int) (int, bool) {
	for _, x := range p.tells {
		if x[0] == n {
			return x[1], true
		}
	}
	return 0, false
}

func (p plain) nodes() []int {
	return those(p.around(), func(n int) bool {
		_, tells := p.upOf(n)
		return tells || n == p.root && n != -1
	})
}

func (p plain) children(n int) []int {
	return those(p.around(), func(c int) bool {
		up, tells := p.upOf(c)
		return tells && up == n
	})
}

// depth: step by step, with all nodes written down that one met.
func (p plain) depth(n int) int {
	var met []int
	for n != p.root {
		up, tells := p.upOf(n)
		if !tells || slices.Contains(met, n) {
			return -1
		}
		met = append(met, n)
		n = up
	}
	if p.root == -1 {
		return -1
	}
	return len(met)
}

func (p plain) check(owner int) api.Code {
	_, rootTells := p.upOf(p.root)
	switch {
	case p.root == -1 && len(p.tells) == 0:
		return api.OK
	case p.root == -1, rootTells, p.root != owner:
		return api.ErrForm
	}
	for _, x := range p.tells {
		if p.depth(x[0]) < 0 {
			return api.ErrHops
		}
	}
	return api.OK
}

// lookTree asks a tree all that it may be asked, and holds it against the chapter's words; it answers what Check says.
func lookTree(t *testing.T, x tree.Tree, c ideal.Circle, name string) api.Code {
	t.Helper()
	p := plainOf(x)
	lookList(t, x, "Nodes", x.Nodes, p.nodes())
	for _, n := range p.around() {
		lookList(t, x, fmt.Sprintf("Children(%d)", n), func() []int { return x.Children(n) }, p.children(n))
		if got, want := x.Depth(n), p.depth(n); got != want {
			t.Fatalf("%v: Depth(%d) = %d, not %d", x, n, got, want)
		}
	}
	want := p.check(c.Owner(ring.Hash("group " + name)))
	if err := x.Check(c, name); api.Of(err) != want || (err == nil) != (want == api.OK) {
		t.Fatalf("%v: Check: %v, not %v", x, err, want)
	}
	if after := plainOf(x); after.root != p.root || !slices.Equal(after.nodes(), p.nodes()) {
		t.Fatalf("%v was changed: it was %v", x, p)
	}
	return want
}

// lookList asks for a list twice, and spoils the first answer in between.
func lookList(t *testing.T, x tree.Tree, what string, ask func() []int, want []int) {
	t.Helper()
	first := ask()
	if !slices.Equal(first, want) {
		t.Fatalf("%v: %s = %v, not %v", x, what, first, want)
	}
	spoil(first)
	if again := ask(); !slices.Equal(again, want) {
		t.Fatalf("%v: %s = %v, then %v", x, what, want, again)
	}
}

// few are the nodes of drawn trees; some of them are no addresses.
var few = []int{0, 1, 2, 3, 4, 5, 6, 7, 8, 9, 10, 31, 32, -1, -2, math.MinInt, math.MaxInt}

// met makes sure that the runs came to all that they are for.
func met(t *testing.T, came map[string]int, least int, l ...string) {
	t.Helper()
	for _, what := range l {
		if came[what] < least {
			t.Errorf("%s: %d times: %v", what, came[what], came)
		}
	}
}
