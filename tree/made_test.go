package tree_test

import (
	"fmt"
	"maps"
	"slices"
	"testing"

	"wigwag/api"
	"wigwag/group"
	"wigwag/ideal"
	"wigwag/peer"
	"wigwag/tree"
)

// made: a tree that somebody else made.
func made(root int, up map[int]int) tree.Tree { return tree.Tree{Root: root, Up: up} }

// P20.1: who is in a tree, who tells whom, and how deep they are; also of trees that are none.
func TestNodesChildrenDepth(t *testing.T) {
	for _, c := range []struct {
		name  string
		of    tree.Tree
		nodes []int
		below map[int][]int
		depth map[int]int // of others -1
	}{
		{"only a root", made(3, map[int]int{}), []int{3}, nil, map[int]int{3: 0}},
		{"the root 0", made(0, map[int]int{}), []int{0}, nil, map[int]int{0: 0}},
		{"a small one", made(2, map[int]int{9: 2, 1: 2, 4: 9, 31: 9, 0: 4}), []int{0, 1, 2, 4, 9, 31}, map[int][]int{2: {1, 9}, 9: {4, 31}, 4: {0}}, map[int]int{2: 0, 1: 1, 9: 1, 4: 2, 31: 2, 0: 3}},
		{"without a root", made(-1, map[int]int{}), nil, nil, nil},
		{"without a root, and somebody tells", made(-1, map[int]int{7: 8, 3: 8}), []int{3, 7}, map[int][]int{8: {3, 7}}, nil},
		{"without a root, and somebody tells nobody", made(-1, map[int]int{7: -1}), []int{7}, map[int][]int{-1: {7}}, nil},
		{"a root that tells", made(2, map[int]int{2: 5, 1: 2}), []int{1, 2}, map[int][]int{5: {2}, 2: {1}}, map[int]int{2: 0, 1: 1}},
		{"a root that tells itself", made(2, map[int]int{2: 2}), []int{2}, map[int][]int{2: {2}}, map[int]int{2: 0}},
		{"a root in a circle", made(2, map[int]int{2: 5, 5: 2}), []int{2, 5}, map[int][]int{5: {2}, 2: {5}}, map[int]int{2: 0, 5: 1}},
		{"a circle beside the root", made(2, map[int]int{4: 5, 5: 6, 6: 4, 7: 5, 1: 2}), []int{1, 2, 4, 5, 6, 7}, map[int][]int{5: {4, 7}, 6: {5}, 4: {6}, 2: {1}}, map[int]int{2: 0, 1: 1}},
		{"one that tells itself", made(2, map[int]int{4: 4}), []int{2, 4}, map[int][]int{4: {4}}, map[int]int{2: 0}},
		{"one that tells nobody", made(2, map[int]int{4: -1, -2: 2}), []int{-2, 2, 4}, map[int][]int{-1: {4}, 2: {-2}}, map[int]int{2: 0, -2: 1}},
		{"one that tells somebody who isn't there", made(2, map[int]int{4: 8}), []int{2, 4}, map[int][]int{8: {4}}, map[int]int{2: 0}},
		{"None tells", made(2, map[int]int{-1: 2, 5: -1}), []int{-1, 2, 5}, map[int][]int{2: {-1}, -1: {5}}, map[int]int{2: 0, -1: 1, 5: 2}},
		{"a root below None", made(-2, map[int]int{-3: -2}), []int{-3, -2}, map[int][]int{-2: {-3}}, map[int]int{-2: 0, -3: 1}},
	} {
		if got := c.of.Nodes(); !slices.Equal(got, c.nodes) {
			t.Errorf("%s: Nodes = %v, not %v", c.name, got, c.nodes)
		}
		for _, n := range append([]int{2, 3, 4, 5, 6, 7, 8, 9, -3}, odd...) {
			if got := c.of.Children(n); !slices.Equal(got, c.below[n]) {
				t.Errorf("%s: Children(%d) = %v, not %v", c.name, n, got, c.below[n])
			}
			want, in := c.depth[n]
			if !in {
				want = -1
			}
			if got := c.of.Depth(n); got != want {
				t.Errorf("%s: Depth(%d) = %d, not %d", c.name, n, got, want)
			}
		}
	}
}

// P20.1: Check says what is wrong first.
func TestCheck(t *testing.T) {
	_, c := placed(t, "g") // the owner is 3
	for _, x := range []struct {
		name string
		of   tree.Tree
		want api.Code
	}{
		{"only the owner", made(3, map[int]int{}), api.OK},
		{"one that tells it", made(3, map[int]int{0: 3}), api.OK},
		{"many", made(3, map[int]int{0: 2, 2: 3, 1: 3, 7: 0}), api.OK},
		{"strangers below", made(3, map[int]int{-1: 3, 99: -1}), api.OK},
		{"nobody", made(-1, map[int]int{}), api.OK},
		{"without a root, and somebody tells", made(-1, map[int]int{0: 3}), api.ErrForm},
		{"without a root, and somebody tells nobody", made(-1, map[int]int{0: -1}), api.ErrForm},
		{"without a root, and None tells", made(-1, map[int]int{-1: 3}), api.ErrForm},
		{"without a root, and a circle", made(-1, map[int]int{0: 1, 1: 0}), api.ErrForm},
		{"another root", made(2, map[int]int{}), api.ErrForm},
		{"the zero root", made(0, map[int]int{}), api.ErrForm},
		{"a root that is no member", made(9, map[int]int{}), api.ErrForm},
		{"a root below None", made(-2, map[int]int{}), api.ErrForm},
		{"another root, and all tell it", made(2, map[int]int{0: 2, 3: 2}), api.ErrForm},
		{"the owner tells", made(3, map[int]int{3: 2}), api.ErrForm},
		{"the owner tells itself", made(3, map[int]int{3: 3}), api.ErrForm},
		{"the owner tells one that tells it", made(3, map[int]int{3: 0, 0: 3}), api.ErrForm},
		{"the owner tells nobody, but stands there", made(3, map[int]int{3: -1}), api.ErrForm},
		{"a circle", made(3, map[int]int{0: 1, 1: 0}), api.ErrHops},
		{"a circle of three, and one that tells into it", made(3, map[int]int{0: 1, 1: 2, 2: 0, 7: 1, 8: 3}), api.ErrHops},
		{"one that tells itself", made(3, map[int]int{0: 0}), api.ErrHops},
		{"one that tells nobody", made(3, map[int]int{0: -1, 1: 3}), api.ErrHops},
		{"a way that ends elsewhere", made(3, map[int]int{0: 1, 2: 3}), api.ErrHops},
		{"the owner tells, and a circle", made(3, map[int]int{3: 2, 0: 1, 1: 0}), api.ErrForm},
		{"another root, and a circle", made(2, map[int]int{0: 1, 1: 0}), api.ErrForm},
	} {
		if err := x.of.Check(c, "g"); api.Of(err) != x.want {
			t.Errorf("%s: %v, not %v", x.name, err, x.want)
		}
	}
	// On the empty circle nobody is the owner.
	for root, want := range map[int]api.Code{-1: api.OK, 3: api.ErrForm, 0: api.ErrForm} {
		if err := made(root, map[int]int{}).Check(ideal.Circle{}, "g"); api.Of(err) != want {
			t.Errorf("the empty circle: root %d: %v", root, err)
		}
	}
}

// P20.1: the group's name says whose tree it is.
func TestCheckOfOtherGroups(t *testing.T) {
	_, c := placed(t, "g")
	said := map[api.Code]int{}
	for i := range 300 {
		name := fmt.Sprint("price.8.", i)
		for n := range 4 {
			want := api.ErrForm
			if c.Owner(group.Key(name)) == n {
				want = api.OK
			}
			if err := made(n, map[int]int{9: n}).Check(c, name); api.Of(err) != want {
				t.Errorf("%s: root %d: %v", name, n, err)
			}
			said[want]++
		}
	}
	if said[api.OK] != 300 {
		t.Errorf("%v", said)
	}
}

// P20.1: the zero tree, which stands beside an error, may be asked, too.
func TestZeroTree(t *testing.T) {
	x, err := tree.Of(ways{}, "g", []int{0})
	expectError(t, "beside an error", x, err, api.ErrStale)
	_, c := placed(t, "g")
	if !slices.Equal(x.Nodes(), []int{0}) || len(x.Children(0)) > 0 || x.Depth(0) != 0 || x.Depth(1) != -1 || api.Of(x.Check(c, "g")) != api.ErrForm {
		t.Errorf("%v, %v, %d, %d, %v", x.Nodes(), x.Children(0), x.Depth(0), x.Depth(1), x.Check(c, "g"))
	}
}

// P1: great trees that somebody else made: each call ends soon.
func TestGreatTrees(t *testing.T) {
	const many = 200000
	_, c := placed(t, "g")
	chain, star, circle := map[int]int{}, map[int]int{}, map[int]int{}
	for n := 10; n < 10+many; n++ {
		chain[n], star[n], circle[n] = n-1, 3, n-1
	}
	chain[10], circle[10] = 3, 9+many
	for i, x := range []struct {
		up     map[int]int
		depth  int
		below  int
		checks api.Code
	}{
		{chain, many, 1, api.OK}, {star, 1, many, api.OK}, {circle, -1, 0, api.ErrHops},
	} {
		of := made(3, x.up)
		if d := of.Depth(9 + many); d != x.depth {
			t.Errorf("%d: Depth = %d", i, d)
		}
		if n := len(of.Children(3)); n != x.below {
			t.Errorf("%d: %d children", i, n)
		}
		if l := of.Nodes(); len(l) != many+1 || !slices.IsSorted(l) {
			t.Errorf("%d: %d nodes", i, len(l))
		}
		if err := of.Check(c, "g"); api.Of(err) != x.checks {
			t.Errorf("%d: Check = %v", i, err)
		}
	}
}

// P2 (K3): no call changes the members, the room behind them, or the tree that it is asked of; answers share no memory.
func TestMemory(t *testing.T) {
	w := ways{5: 5, 4: 5, 3: 4, 2: 4}
	room := []int{2, 3, 77, 78}
	x, err := tree.Of(w, "g", room[:2])
	y, other := tree.Of(w, "g", room[:2])
	if err != nil || other != nil || !slices.Equal(room, []int{2, 3, 77, 78}) {
		t.Fatalf("%v, %v, %v", err, other, room)
	}
	room[0], room[1] = 88, 89
	spoil(x.Nodes())
	spoil(x.Children(4))
	_ = x.Check(ideal.Circle{}, "g")
	want := map[int]int{2: 4, 3: 4, 4: 5}
	expectTree(t, "asked", x, nil, 5, want)
	if !slices.Equal(x.Nodes(), []int{2, 3, 4, 5}) || !slices.Equal(x.Children(4), []int{2, 3}) {
		t.Errorf("%v, %v", x.Nodes(), x.Children(4))
	}
	clear(x.Up)
	x.Up[1] = 2
	expectTree(t, "another answer", y, nil, 5, want)
	z, err := tree.Of(w, "g", []int{2, 3})
	expectTree(t, "a later answer", z, err, 5, want)
	none, _ := tree.Of(w, "g", nil)
	none.Up[1] = 2
	none, err = tree.Of(w, "g", nil)
	expectTree(t, "of no member", none, err, peer.None, map[int]int{})
	own := map[int]int{2: 4, 4: 5}
	held := made(5, own)
	spoil(held.Nodes())
	_, _ = held.Depth(2), held.Check(ideal.Circle{}, "g")
	if !maps.Equal(own, map[int]int{2: 4, 4: 5}) {
		t.Errorf("changed: %v", own)
	}
}

// spoil writes over a list and the room behind it.
func spoil(l []int) {
	l = l[:cap(l)]
	for i := range l {
		l[i] = 99
	}
}
