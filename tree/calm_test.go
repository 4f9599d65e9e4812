package tree_test

import (
	"fmt"
	"slices"
	"testing"

	"wigwag/api"
	"wigwag/chord"
	"wigwag/group"
	"wigwag/ideal"
	"wigwag/peer"
	"wigwag/ring"
	"wigwag/route"
	"wigwag/tree"
)

// plainOwner: whose a group is, by what a circle tells of its members.
func plainOwner(c ideal.Circle, name string) int {
	best, far, x := peer.None, api.Id(0), ring.Hash("group "+name)
	for n := range api.MaxNodes {
		if p, ok := c.Peer(n); ok && (best == peer.None || p.Id-x < far) {
			best, far = n, p.Id-x
		}
	}
	return best
}

// place: near a group's key, near another member's place, or any.
func (d draw) place(r *chord.Ring, name string) api.Id {
	near := api.Id(d.Intn(5)) - 2
	switch d.Intn(3) {
	case 0:
		return group.Key(name) + near
	case 1:
		return r.Id(one(d, r.Live())) + near
	}
	return api.Id(d.Uint64())
}

// founded: a ring of base members; often all of them lie ahead of the group's key, side by side.
func (d draw) founded(t *testing.T, name string) *chord.Ring {
	for {
		var ids []api.Id
		for range chord.Base {
			id := api.Id(d.Uint64())
			if d.Intn(3) == 0 {
				id = group.Key(name) - api.Id(d.Intn(40))
			}
			ids = append(ids, id)
		}
		if r, err := chord.New(ids); err == nil {
			return r
		}
	}
}

// shake: members come and go, and look, and their fingers are now and then asked for, or never: these may be of any ring that was ahead.
func (d draw) shake(r *chord.Ring, f *route.Fingers, name string, calls int) {
	joins, goings, fixes := 10+d.Intn(40), one(d, []int{0, 5, 15}), one(d, []int{0, 0, 3})
	for range calls {
		live := r.Live()
		switch k := d.Intn(100); {
		case k < joins:
			_ = r.Join(d.Intn(api.MaxNodes), d.place(r, name), one(d, live))
		case k < joins+goings:
			_ = r.Fail(one(d, live))
		case k < 90:
			_ = r.Stabilize(one(d, live))
		case k < 93:
			r.Round()
		case k < 93+fixes:
			f.Round()
		case k < 93+2*fixes:
			_ = f.Fix(one(d, live))
		}
	}
}

func settle(t *testing.T, r *chord.Ring) {
	t.Helper()
	for range ideal.Rounds(len(r.Live())) {
		r.Round()
	}
	if !ideal.Is(r) {
		t.Fatal("the ring doesn't come to rest")
	}
}

// lookCalm looks at P20.2: a tree of members that live, held against each member's way.
func lookCalm(t *testing.T, r *chord.Ring, f *route.Fingers, name string, members []int) int {
	t.Helper()
	c := ideal.Of(r)
	x, err := tree.Of(f, name, members)
	if err != nil {
		t.Fatalf("P20.2: Of(%q, %v): %v", name, members, err)
	}
	if err := x.Check(c, name); err != nil {
		t.Fatalf("P20.2: %v of %q, %v: Check: %v", x, name, members, err)
	}
	met, deepest := map[int]int{}, 0
	for _, m := range members {
		way, err := f.Path(m, group.Key(name))
		if err != nil {
			t.Fatalf("Path(%d): %v", m, err)
		}
		for i, n := range way {
			met[n]++
			if i+1 < len(way) && x.Up[n] != way[i+1] || i+1 == len(way) && x.Root != n {
				t.Fatalf("P20.2: %v of %q: the way of %d is %v", x, name, m, way)
			}
			if d := x.Depth(n); d != len(way)-1-i {
				t.Fatalf("P20.2: %v of %q: Depth(%d) = %d; the way of %d is %v", x, name, n, d, m, way)
			}
		}
		deepest = max(deepest, len(way)-1)
	}
	if nodes := x.Nodes(); !slices.Equal(nodes, sortedKeys(met)) {
		t.Fatalf("P20.2: %v of %q, %v: Nodes = %v, not %v", x, name, members, nodes, sortedKeys(met))
	}
	if deepest >= c.Len() || len(members) > 0 && x.Root != plainOwner(c, name) {
		t.Fatalf("P20.2: %v of %q: %d deep, of %d; the owner is %d", x, name, deepest, c.Len(), plainOwner(c, name))
	}
	return deepest
}

func sortedKeys(m map[int]int) []int {
	var l []int
	for n := range m {
		l = append(l, n)
	}
	slices.Sort(l)
	return l
}

// P20.2: any rings that came to rest, any members of them, with any fingers, also none and those that should be.
func TestCalm(t *testing.T) {
	t.Parallel()
	came := map[string]int{}
	for seed := range 250 {
		d := newDraw(seed)
		name := d.name()
		r := d.founded(t, name)
		f := route.New(r)
		for range 3 {
			d.shake(r, f, name, 20+d.Intn(150))
			settle(t, r)
			for pass := range 2 {
				live := r.Live()
				for _, members := range [][]int{live, nil, {one(d, live)}, {plainOwner(ideal.Of(r), name)}, d.pick(live, 6), d.pick(live, 60)} {
					deepest := lookCalm(t, r, f, name, members)
					came[fmt.Sprintf("%d deep", min(deepest, 8))]++
					lookCalm(t, r, f, d.name(), members)
				}
				if pass == 0 {
					f.Round()
				}
			}
			came[fmt.Sprintf("%d live", len(r.Live())/8*8)]++
		}
	}
	met(t, came, 20, "0 deep", "1 deep", "2 deep", "3 deep", "4 deep", "5 deep", "6 deep", "7 deep", "8 deep", "0 live", "8 live", "16 live", "24 live")
}

// P20.2: without fingers, on a ring of all addresses that rises towards the key, the tree is as deep as it gets.
func TestCalmLadder(t *testing.T) {
	for behind := range 4 {
		k := group.Key("g")
		r, err := chord.New([]api.Id{k - 400, k - 300, k - 200, k - 100})
		if err != nil {
			t.Fatal(err)
		}
		f := route.New(r)
		for n := chord.Base; n < api.MaxNodes; n++ {
			if err := r.Join(n, k+api.Id(behind)-api.Id(api.MaxNodes-n), 3); err != nil {
				t.Fatal(err)
			}
		}
		settle(t, r)
		slow := lookCalm(t, r, f, "g", r.Live())
		f.Round()
		fast := lookCalm(t, r, f, "g", r.Live())
		if slow < 9 || fast >= slow {
			t.Errorf("%d deep, with fingers %d", slow, fast)
		}
	}
}

// P20.1: rings that haven't come to rest, and members that don't live: just what the ways say.
func TestNotCalm(t *testing.T) {
	t.Parallel()
	came := map[string]int{}
	for seed := range 300 {
		d := newDraw(1000 + seed)
		name := d.name()
		r := d.founded(t, name)
		f := route.New(r)
		for range 10 {
			d.shake(r, f, name, 20)
			for _, members := range [][]int{r.Live(), d.pick(r.Live(), 5), d.pick([]int{-1, 0, 1, 2, 3, 4, 5, 6, 7, 32}, 3)} {
				want := steadily(f, name, members)
				x, err := tree.Of(f, name, members)
				if fault := want.fault(x, err); fault != "" {
					t.Fatalf("%q, %v: %s", name, members, fault)
				}
				came[outcome(x, err, len(members))]++
				if err == nil {
					came["Check: "+lookTree(t, x, ideal.Of(r), name).Error()]++
				}
			}
		}
	}
	met(t, came, 20, "no member", "a tree", "busy", "dead", "hops", "Check: ok", "Check: form", "Check: hops")
}
