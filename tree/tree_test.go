package tree_test

import (
	"errors"
	"fmt"
	"maps"
	"math"
	"slices"
	"testing"

	"wigwag/api"
	"wigwag/chord"
	"wigwag/group"
	"wigwag/ideal"
	"wigwag/peer"
	"wigwag/ring"
	"wigwag/route"
	"wigwag/tree"
)

// errLost is the walkers' own error.
var errLost = &api.Fault{Where: "walker", At: 7, Err: api.ErrStale}

// ways says of each node who is next; of any other one there is an error, and a next one beside it that nobody is to take.
type ways map[int]int

func (w ways) Next(n int, x api.Id) (int, error) {
	next, here := w[n]
	if !here {
		return n, errLost
	}
	return next, nil
}

// noted is a walker, and what it was asked.
type noted struct {
	of     tree.Walker
	nodes  []int
	places []api.Id
}

func (w *noted) Next(n int, x api.Id) (int, error) {
	w.nodes = append(w.nodes, n)
	w.places = append(w.places, x)
	return w.of.Next(n, x)
}

// line: from a node to the next number, so many steps, up to one that is its own next.
func line(from, steps int) ways {
	w := ways{}
	for n := from; n < from+steps; n++ {
		w[n] = n + 1
	}
	w[from+steps] = from + steps
	return w
}

// joined: of ways that say nothing of the same node.
func joined(l ...ways) ways {
	all := ways{}
	for _, w := range l {
		maps.Copy(all, w)
	}
	return all
}

// up: whom those from one number to another one tell: the number behind them.
func up(from, to int) map[int]int {
	l := map[int]int{}
	for n := from; n <= to; n++ {
		l[n] = n + 1
	}
	return l
}

func expectTree(t *testing.T, when string, x tree.Tree, err error, root int, up map[int]int) {
	t.Helper()
	if err != nil || x.Root != root || x.Up == nil || !maps.Equal(x.Up, up) {
		t.Errorf("%s: %v, %v; not %d, %v", when, x, err, root, up)
	}
}

func expectError(t *testing.T, when string, x tree.Tree, err error, want api.Code) {
	t.Helper()
	if !errors.Is(err, want) || api.Of(err) != want || x.Root != 0 || x.Up != nil {
		t.Errorf("%s: %v, %v; not %v", when, x, err, want)
	}
}

// placed: the base members, so that a group's key is at the place 35 if the first one is at 10, and the others at 20, 30 and 40.
func placed(t *testing.T, name string) (*chord.Ring, ideal.Circle) {
	t.Helper()
	k := group.Key(name)
	r, err := chord.New([]api.Id{k - 25, k - 15, k - 5, k + 5})
	if err != nil {
		t.Fatal(err)
	}
	return r, ideal.Of(r)
}

// P20.1, P20.2: the chapter's example.
func TestExample(t *testing.T) {
	r, c := placed(t, "g")
	if c.Owner(group.Key("g")) != 3 {
		t.Fatalf("the owner is %d", c.Owner(group.Key("g")))
	}
	x, err := tree.Of(route.New(r), "g", []int{0, 1})
	if err != nil || x.Root != 3 || x.Up[0] != 2 && x.Up[0] != 3 || x.Check(c, "g") != nil {
		t.Errorf("%v, %v, %v", x, err, x.Check(c, "g"))
	}
	if l := x.Nodes(); !slices.Contains(l, 0) || !slices.Contains(l, 1) || !slices.Contains(l, 3) {
		t.Errorf("Nodes: %v", l)
	}
}

// P20.1: trees of no member, of one, of many; of members that stand there twice; of the root itself.
func TestOf(t *testing.T) {
	w := ways{5: 5, 4: 5, 3: 4, 2: 4, 1: 0, 0: 3, 9: 5, 31: 9}
	for _, c := range []struct {
		members []int
		up      map[int]int
	}{
		{[]int{5}, map[int]int{}},
		{[]int{5, 5, 5}, map[int]int{}},
		{[]int{4}, map[int]int{4: 5}},
		{[]int{3}, map[int]int{3: 4, 4: 5}},
		{[]int{3, 2}, map[int]int{3: 4, 2: 4, 4: 5}},
		{[]int{2, 3}, map[int]int{3: 4, 2: 4, 4: 5}},
		{[]int{3, 3, 2, 3}, map[int]int{3: 4, 2: 4, 4: 5}},
		{[]int{5, 3}, map[int]int{3: 4, 4: 5}},
		{[]int{3, 5}, map[int]int{3: 4, 4: 5}},
		{[]int{3, 5, 5, 3}, map[int]int{3: 4, 4: 5}},
		{[]int{4, 1}, map[int]int{1: 0, 0: 3, 3: 4, 4: 5}},
		{[]int{1, 4}, map[int]int{1: 0, 0: 3, 3: 4, 4: 5}},
		{[]int{31}, map[int]int{31: 9, 9: 5}},
		{[]int{0, 1, 2, 3, 4, 5, 9, 31}, map[int]int{4: 5, 3: 4, 2: 4, 1: 0, 0: 3, 9: 5, 31: 9}},
		{[]int{31, 9, 5, 4, 3, 2, 1, 0}, map[int]int{4: 5, 3: 4, 2: 4, 1: 0, 0: 3, 9: 5, 31: 9}},
	} {
		x, err := tree.Of(w, "g", c.members)
		expectTree(t, fmt.Sprint(c.members), x, err, 5, c.up)
	}
}

// P20.1: no member: a tree without a root, whatever the walker says; it isn't asked.
func TestNoMember(t *testing.T) {
	for _, members := range [][]int{nil, {}, make([]int, 0, 4)} {
		for _, of := range []ways{{}, {0: 0}, {-1: -1}, {0: 1, 1: 0}} {
			w := &noted{of: of}
			x, err := tree.Of(w, "g", members)
			expectTree(t, "no member", x, err, peer.None, map[int]int{})
			if len(w.nodes) > 0 {
				t.Errorf("asked of %v", w.nodes)
			}
			if len(x.Nodes()) > 0 || len(x.Children(0)) > 0 || len(x.Children(peer.None)) > 0 || x.Check(ideal.Circle{}, "g") != nil {
				t.Errorf("%v: %v, %v, %v", x, x.Nodes(), x.Children(0), x.Check(ideal.Circle{}, "g"))
			}
			for _, n := range odd {
				if d := x.Depth(n); d != -1 {
					t.Errorf("Depth(%d) = %d", n, d)
				}
			}
		}
	}
}

// odd are ints that few take for a node.
var odd = []int{peer.None, -2, -32, 0, 1, 31, 32, 33, 1 << 32, 1 << 40, math.MinInt, math.MinInt + 1, math.MaxInt - 1, math.MaxInt}

// P20.1: a walker may name any ints.
func TestAnyNodes(t *testing.T) {
	w := ways{math.MinInt: -2, -2: -1, -1: 32, 32: 1 << 40, 1 << 40: math.MaxInt, math.MaxInt: math.MaxInt}
	x, err := tree.Of(w, "g", []int{-1, math.MinInt})
	expectTree(t, "any ints", x, err, math.MaxInt, map[int]int{math.MinInt: -2, -2: -1, -1: 32, 32: 1 << 40, 1 << 40: math.MaxInt})
	if l := x.Nodes(); !slices.Equal(l, []int{math.MinInt, -2, -1, 32, 1 << 40, math.MaxInt}) {
		t.Errorf("Nodes: %v", l)
	}
	if d := x.Depth(math.MinInt); d != 5 {
		t.Errorf("Depth: %d", d)
	}
	x, err = tree.Of(ways{7: math.MinInt, math.MinInt: math.MinInt}, "g", []int{7})
	expectTree(t, "the least int as the root", x, err, math.MinInt, map[int]int{7: math.MinInt})
	x, err = tree.Of(ways{-2: -2, 3: -2}, "g", []int{-2, 3})
	expectTree(t, "-2 as the root", x, err, -2, map[int]int{3: -2})
}

// P20.1: None as a node: it is asked like any other; a tree whose root it would be has none.
func TestNone(t *testing.T) {
	for _, c := range []struct {
		w       ways
		members []int
		want    api.Code
	}{
		{ways{}, []int{-1}, api.ErrStale},
		{ways{3: -1}, []int{3}, api.ErrStale},
		{ways{3: -1, 5: 5}, []int{5, 3}, api.ErrStale},
		{ways{3: -1, 5: 5}, []int{3, 5}, api.ErrStale},
		{ways{-1: -1}, []int{-1}, api.ErrHops},
		{ways{-1: -1}, []int{-1, -1}, api.ErrHops},
		{ways{3: -1, -1: -1}, []int{3}, api.ErrHops},
		{ways{3: -1, 4: -1, -1: -1}, []int{3, 4, 3}, api.ErrHops},
		{ways{-1: -1, 3: 3}, []int{-1, 3}, api.ErrBusy},
		{ways{-1: -1, 3: 3}, []int{3, -1}, api.ErrBusy},
		{ways{-1: 0, 0: -1}, []int{-1}, api.ErrHops},
	} {
		x, err := tree.Of(c.w, "g", c.members)
		expectError(t, fmt.Sprint(c.w, c.members), x, err, c.want)
	}
	x, err := tree.Of(ways{-1: 3, 3: 3}, "g", []int{-1})
	expectTree(t, "None tells", x, err, 3, map[int]int{-1: 3})
}

// P20.1: the walker's error, at the first step and further on, is answered as it is.
func TestWalkersError(t *testing.T) {
	for _, c := range []struct {
		w       ways
		members []int
	}{
		{ways{}, []int{0}},
		{ways{0: 1}, []int{0}},
		{ways{0: 1, 1: 2}, []int{0}},
		{line(0, 10), []int{0, 11}},
		{line(0, 10), []int{11, 0}},
		{joined(line(0, 10), ways{20: 21, 21: 22}), []int{0, 3, 20}},
		{joined(line(0, 10), ways{20: 21, 21: 22}), []int{20, 0}},
		{ways{0: 1, 1: 0}, []int{0, 7}},
	} {
		x, err := tree.Of(c.w, "g", c.members)
		expectError(t, fmt.Sprint(c.w, c.members), x, err, api.ErrStale)
		var f *api.Fault
		if !errors.As(err, &f) || f != errLost {
			t.Errorf("%v: another error: %v", c.members, err)
		}
	}
	for code := api.ErrArg; code <= api.ErrHops; code++ {
		x, err := tree.Of(says{code}, "g", []int{4})
		expectError(t, "each code", x, err, code)
	}
	own := errors.New("no code at all")
	if x, err := tree.Of(says{own}, "g", []int{4}); !errors.Is(err, own) || x.Up != nil || x.Root != 0 {
		t.Errorf("an error without a code: %v, %v", x, err)
	}
}

// says answers an error, and the node itself beside it.
type says struct{ err error }

func (w says) Next(n int, x api.Id) (int, error) { return n, w.err }

// P20.1: a walker that goes round and round: no root, or a part of the tree from which one doesn't come to it.
func TestRoundAndRound(t *testing.T) {
	circle := ways{0: 1, 1: 2, 2: 0, 7: 1}
	for _, members := range [][]int{{0}, {1}, {7}, {0, 1, 2, 7}, {7, 7}} {
		x, err := tree.Of(circle, "g", members)
		expectError(t, fmt.Sprint(members), x, err, api.ErrHops)
	}
	x, err := tree.Of(ways{3: 4, 4: 3}, "g", []int{3})
	expectError(t, "two", x, err, api.ErrHops)
	w := joined(circle, ways{5: 5, 6: 5})
	_, c := placed(t, "g")
	for _, members := range [][]int{{7, 6}, {6, 7}, {6, 7, 5, 0}} {
		x, err = tree.Of(w, "g", members)
		expectTree(t, fmt.Sprint(members), x, err, 5, map[int]int{0: 1, 1: 2, 2: 0, 7: 1, 6: 5})
		for n, want := range map[int]int{0: -1, 1: -1, 2: -1, 7: -1, 6: 1, 5: 0, 3: -1} {
			if d := x.Depth(n); d != want {
				t.Errorf("Depth(%d) = %d, not %d", n, d, want)
			}
		}
		// 5 is no member of the circle, so that this comes first.
		if err := x.Check(c, "g"); api.Of(err) != api.ErrForm {
			t.Errorf("Check: %v", err)
		}
	}
	x, err = tree.Of(ways{0: 1, 1: 0, 3: 3}, "g", []int{0, 3})
	expectTree(t, "a circle beside the root", x, err, 3, map[int]int{0: 1, 1: 0})
	if err := x.Check(c, "g"); api.Of(err) != api.ErrHops {
		t.Errorf("Check: %v", err)
	}
}

// P20.1: two nodes that are their own next.
func TestTwoRoots(t *testing.T) {
	w := joined(line(0, 3), line(10, 3))
	for _, members := range [][]int{{3, 13}, {13, 3}, {0, 10}, {10, 0}, {0, 1, 2, 3, 13}, {12, 0, 77}, {0, 0, 12}} {
		x, err := tree.Of(w, "g", members)
		expectError(t, fmt.Sprint(members), x, err, api.ErrBusy)
	}
	// The other one isn't met.
	x, err := tree.Of(w, "g", []int{1, 0})
	expectTree(t, "one of them", x, err, 3, up(0, 2))
}

// P20.1: which error is first: what is met first; that there is no root shows only at last.
func TestFirstError(t *testing.T) {
	w := joined(line(0, 3), line(10, 3), ways{20: 21, 30: 31, 31: 30}, line(100, 80))
	for _, c := range []struct {
		members []int
		want    api.Code
	}{
		{[]int{0, 10, 20}, api.ErrBusy}, {[]int{0, 20, 10}, api.ErrStale}, {[]int{20, 0, 10}, api.ErrStale},
		{[]int{30, 20}, api.ErrStale}, {[]int{20, 30}, api.ErrStale}, {[]int{30, 0, 10}, api.ErrBusy}, {[]int{0, 30, 10}, api.ErrBusy},
		{[]int{100, 20}, api.ErrStale}, {[]int{100, 0, 10}, api.ErrBusy}, {[]int{100, 30}, api.ErrHops}, {[]int{30, 100}, api.ErrHops},
	} {
		x, err := tree.Of(w, "g", c.members)
		expectError(t, fmt.Sprint(c.members), x, err, c.want)
	}
}

// P20.1: ways that are just as long as they may be, 66 steps with the one on which the root shows, and longer ones.
func TestLongWays(t *testing.T) {
	for steps := 60; steps <= 70; steps++ {
		// The root is its own next, which is asked, too.
		w := line(0, steps)
		x, err := tree.Of(w, "g", []int{0})
		if steps+1 <= 66 {
			expectTree(t, fmt.Sprint(steps), x, err, steps, up(0, steps-1))
			if d := x.Depth(0); d != steps {
				t.Errorf("Depth = %d, not %d", d, steps)
			}
		} else {
			expectError(t, fmt.Sprint(steps), x, err, api.ErrHops)
		}
	}
	w := line(0, 200)
	for _, c := range []struct {
		members []int
		up      map[int]int
	}{
		{[]int{135}, up(135, 199)},
		{[]int{135, 134}, up(134, 199)},
		{[]int{135, 69}, up(69, 199)},                       // 66 steps up to one that is there
		{[]int{135, 68}, joined(up(68, 133), up(135, 199))}, // one more
		{[]int{68, 135}, joined(up(68, 133), up(135, 199))}, // nor does the other way fill what is wanting
		{[]int{68, 135, 100}, joined(up(68, 133), up(135, 199))},
		{[]int{68, 135, 134}, up(68, 199)},
		{[]int{135, 68, 2}, joined(up(2, 133), up(135, 199))},
		{[]int{200, 0}, joined(up(0, 65))},
		{[]int{200, 0, 66}, up(0, 131)},
		{[]int{0, 66, 132, 198}, up(0, 199)},
	} {
		x, err := tree.Of(w, "g", c.members)
		expectTree(t, fmt.Sprint(c.members), x, err, 200, c.up)
	}
	x, err := tree.Of(w, "g", []int{68, 135})
	if x.Depth(68) != -1 || x.Depth(133) != -1 || x.Depth(134) != -1 || x.Depth(135) != 65 || slices.Contains(x.Nodes(), 134) || !slices.Equal(x.Children(134), []int{133}) {
		t.Errorf("%v, %v", x, err)
	}
	x, err = tree.Of(w, "g", []int{0, 66, 132})
	expectError(t, "nobody comes to the root", x, err, api.ErrHops)
	// An error that stands behind the last step isn't met; one on the last step is.
	delete(w, 66)
	x, err = tree.Of(w, "g", []int{200, 0})
	expectTree(t, "the error is further on", x, err, 200, up(0, 65))
	x, err = tree.Of(w, "g", []int{200, 1})
	expectError(t, "the error is on the last step", x, err, api.ErrStale)
	// Likewise of a second root.
	w[66] = 66
	x, err = tree.Of(w, "g", []int{200, 0})
	expectTree(t, "the second root is further on", x, err, 200, up(0, 65))
	x, err = tree.Of(w, "g", []int{200, 1})
	expectError(t, "the second root is on the last step", x, err, api.ErrBusy)
}

// P20.1: a walker is asked of the group's key, of each node once, and in order.
func TestAsked(t *testing.T) {
	for _, name := range []string{"g", "", "price.3.0", "\x00 any\xff"} {
		w := &noted{of: ways{5: 5, 4: 5, 3: 4, 2: 4, 1: 0, 0: 3}}
		if _, err := tree.Of(w, name, []int{2, 1, 5, 3, 2}); err != nil {
			t.Fatal(err)
		}
		if !slices.Equal(w.nodes, []int{2, 4, 5, 1, 0, 3}) {
			t.Errorf("asked of %v", w.nodes)
		}
		for _, x := range w.places {
			if x != ring.Hash("group "+name) {
				t.Errorf("asked of the place %d", x)
			}
		}
	}
	w := &noted{of: line(0, 100)}
	_, err := tree.Of(w, "g", []int{0})
	if api.Of(err) != api.ErrHops || len(w.nodes) != 66 {
		t.Errorf("%v: asked %d times", err, len(w.nodes))
	}
	w = &noted{of: joined(line(0, 3), line(10, 3))}
	_, err = tree.Of(w, "g", []int{2, 12, 0, 11})
	if api.Of(err) != api.ErrBusy || !slices.Equal(w.nodes, []int{2, 3, 12, 13}) {
		t.Errorf("%v: asked of %v", err, w.nodes)
	}
}
