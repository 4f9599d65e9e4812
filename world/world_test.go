package world_test

import (
	"errors"
	"fmt"
	"math"
	"slices"
	"testing"

	"wigwag/api"
	"wigwag/group"
	"wigwag/node"
	"wigwag/value"
	"wigwag/world"
)

var quarters = []api.Id{1 << 62, 2 << 62, 3 << 62, 0}

func founded(t *testing.T, s value.Schema, levels int, ids []api.Id) *world.World {
	t.Helper()
	w, err := world.New(s, levels, ids)
	if err != nil {
		t.Fatalf("New(%v, %d, %v): %v", s, levels, ids, err)
	}
	return w
}

// must: no error.
func must(t *testing.T, err error) {
	t.Helper()
	if err != nil {
		t.Fatal(err)
	}
}

// fails: this error.
func fails(t *testing.T, what string, err error, want api.Code) {
	t.Helper()
	if !errors.Is(err, want) || api.Of(err) != want {
		t.Errorf("%s: %v; not %v", what, err, want)
	}
}

func subscribed(t *testing.T, w *world.World, n int, text string) {
	t.Helper()
	_, err := w.Subscribe(n, text)
	must(t, err)
}

func children(t *testing.T, w *world.World, n int, g string) []int {
	t.Helper()
	l, err := w.Children(n, g)
	must(t, err)
	return l
}

// P17.1: New.
func TestNew(t *testing.T) {
	none, many := value.Schema{}, slices.Concat(numbers(7), value.Schema{{Name: "e", Kind: value.Text}})
	bad := value.Schema{{Name: "a", Kind: value.Text}, {Name: "in", Kind: value.Text}}
	twice, few, more := []api.Id{1, 2, 3, 1}, quarters[:3], []api.Id{1, 2, 3, 4, 5}
	for i, c := range []struct {
		s      value.Schema
		levels int
		ids    []api.Id
		want   api.Code
		at     int
	}{
		{shop(), -1, quarters, api.ErrArg, 0}, {shop(), 9, quarters, api.ErrArg, 0}, {shop(), math.MinInt, quarters, api.ErrArg, 0}, {shop(), math.MaxInt, quarters, api.ErrArg, 0},
		{none, 3, quarters, api.ErrSchema, 0}, {nil, 3, quarters, api.ErrSchema, 0}, {many, 3, quarters, api.ErrSchema, 0}, {bad, 3, quarters, api.ErrSchema, 1},
		{shop(), 3, nil, api.ErrArg, 0}, {shop(), 3, few, api.ErrArg, 0}, {shop(), 3, more, api.ErrArg, 0}, {shop(), 3, twice, api.ErrCollision, 0},
		{bad, 9, twice, api.ErrArg, 0}, {bad, 8, twice, api.ErrSchema, 1}, {bad, 0, few, api.ErrSchema, 1}, {shop(), -1, twice, api.ErrArg, 0},
	} {
		w, err := world.New(c.s, c.levels, c.ids)
		fails(t, fmt.Sprint("New ", i), err, c.want)
		if w != nil {
			t.Errorf("New %d: a world beside %v", i, err)
		}
		var f *api.Fault
		if c.want == api.ErrSchema && (!errors.As(err, &f) || f.At != c.at) {
			t.Errorf("New %d: %v, not at %d", i, err, c.at)
		}
	}
	for _, levels := range []int{0, 1, 8} {
		w := founded(t, shop(), levels, quarters)
		if !slices.Equal(w.Live(), []int{0, 1, 2, 3}) || !w.Ideal() || !w.Fits() || len(w.Packets()) != 0 || w.Quiet() != 40 {
			t.Errorf("a new world: %v, %v, %v, %v, %d", w.Live(), w.Ideal(), w.Fits(), w.Packets(), w.Quiet())
		}
	}
}

// P17.3: the chapter's example, of all levels.
func TestExample(t *testing.T) {
	for levels := range 9 {
		for _, ids := range [][]api.Id{quarters, {10, 20, 30, 40}, {math.MaxUint64, 0, 1, 2}} {
			w := founded(t, shop(), levels, ids)
			if id, err := w.Subscribe(0, "price in 3..9"); id != 1 || err != nil {
				t.Fatalf("Subscribe: %d, %v", id, err)
			}
			w.Calm(w.Quiet())
			if seq, err := w.Publish(2, sale(5, "x")); seq != 1 || err != nil {
				t.Fatalf("Publish: %d, %v", seq, err)
			}
			if open, err := w.Open(2); err != nil || !slices.Equal(open, []int{1}) {
				t.Errorf("Open: %v, %v", open, err)
			}
			w.Calm(w.Quiet())
			want := []node.Delivery{{Sub: 1, Pub: 2, Seq: 1, Event: sale(5, "x")}}
			if l, err := w.Poll(0, 9); err != nil || fmt.Sprint(l) != fmt.Sprint(want) {
				t.Errorf("Poll: %v, %v; not %v", l, err, want)
			}
			if open, err := w.Open(2); err != nil || len(open) != 0 {
				t.Errorf("Open: %v, %v", open, err)
			}
			for n := range 4 {
				if l, err := w.Poll(n, 9); err != nil || len(l) != 0 {
					t.Errorf("Poll of %d: %v, %v", n, l, err)
				}
			}
		}
	}
}

// P17.1: DOC.md's examples 1 to 5: a subscription, its wishes on their way up, an event on its way down, packets doubled and lost.
func TestExamplesOfAnEvent(t *testing.T) {
	w := founded(t, shop(), 3, []api.Id{10, 20, 30, 40})
	subscribed(t, w, 1, "price in 3..9")
	// The cells have some 12 prices each: 3 to 9 are in the first one.
	subs, err := w.Subs(1)
	if err != nil || len(subs) != 1 || subs[0].Id != 1 || !slices.Equal(subs[0].Groups, []string{"price.3.0"}) {
		t.Fatalf("Subs: %v, %v", subs, err)
	}
	// Nearly all places are 0's own, and 3 lies ahead of it.
	if w.Owner(group.Key("price.3.0")) != 0 {
		t.Fatal("0 isn't the root")
	}
	for tick, want := range [][2]int{{1, 0}, {1, 1}} {
		w.Tick()
		w.Settle()
		if a, b := children(t, w, 3, "price.3.0"), children(t, w, 0, "price.3.0"); len(a) != want[0] || len(b) != want[1] {
			t.Errorf("behind tick %d: 3 has %v, 0 has %v", tick+1, a, b)
		}
	}
	seq, err := w.Publish(2, sale(5, "x"))
	if seq != 1 || err != nil {
		t.Fatalf("Publish: %d, %v", seq, err)
	}
	w.Tick()
	for _, p := range w.Packets() {
		must(t, w.Drop(p.Id))
	}
	for turn := 0; turn == 0 || w.Flush() > 0; turn++ {
		if turn > 50 {
			t.Fatal("it goes on")
		}
		for _, p := range w.Packets() {
			must(t, w.Copy(p.Id))
		}
		for _, p := range w.Packets() {
			must(t, w.Deliver(p.Id))
		}
	}
	if l, err := w.Poll(1, 9); err != nil || len(l) != 1 || l[0].Sub != 1 || l[0].Pub != 2 || l[0].Seq != 1 {
		t.Errorf("Poll: %v, %v", l, err)
	}
	if open, err := w.Open(2); err != nil || len(open) != 0 {
		t.Errorf("Open: %v, %v", open, err)
	}
}

// P17.1: DOC.md's examples 6 to 9: a node comes, and what is refused.
func TestExamplesOfMembers(t *testing.T) {
	w := founded(t, shop(), 3, []api.Id{10, 20, 30, 40})
	must(t, w.Join(7, 25, 1))
	if !slices.Equal(w.Live(), []int{0, 1, 2, 3, 7}) || !w.Lives(7) || w.Owner(25) != 7 || w.Ideal() {
		t.Errorf("Live = %v, Owner(25) = %d, Ideal = %v", w.Live(), w.Owner(25), w.Ideal())
	}
	w.Calm(w.Quiet())
	if next, err := w.Next(1, 25); !w.Ideal() || next != 7 || err != nil {
		t.Errorf("Ideal = %v, Next = %d, %v", w.Ideal(), next, err)
	}
	fails(t, "Crash(0)", w.Crash(0), api.ErrBusy)
	fails(t, "Crash(9)", w.Crash(9), api.ErrDead)
	fails(t, "Join(7, 30, 1)", w.Join(7, 30, 1), api.ErrAddrUsed)
	fails(t, "Join(8, 25, 1)", w.Join(8, 25, 1), api.ErrCollision)
	_, err := w.Subscribe(0, "price in 9..3")
	fails(t, "price in 9..3", err, api.ErrSchema)
	_, err = w.Subscribe(0, "price in")
	fails(t, "price in", err, api.ErrParse)
	var f *api.Fault
	if !errors.As(err, &f) || f.At != 8 {
		t.Errorf("price in: %v", err)
	}
}

// P17.3, P17.4: DOC.md's example 10: a root crashes; some ticks later the tree goes round it, and events that are published then get to all.
func TestExampleOfACrash(t *testing.T) {
	w := founded(t, shop(), 0, quarters)
	g := "price.0.0"
	root := w.Owner(group.Key(g))
	must(t, w.Join(7, group.Key(g), 1))
	for n := range 4 {
		subscribed(t, w, n, "price in 3..9")
	}
	w.Calm(w.Quiet())
	if len(children(t, w, 7, g)) == 0 || len(children(t, w, root, g)) != 0 {
		t.Fatalf("7 has %v, %d has %v", children(t, w, 7, g), root, children(t, w, root, g))
	}
	must(t, w.Crash(7))
	w.Calm(w.Quiet())
	if len(children(t, w, root, g)) == 0 {
		t.Error("nobody has the wishes")
	}
	_, err := w.Publish((root+1)%4, sale(9, ""))
	must(t, err)
	w.Calm(w.Quiet())
	for n := range 4 {
		if l, err := w.Poll(n, 9); err != nil || len(l) != 1 {
			t.Errorf("Poll(%d): %v, %v", n, l, err)
		}
	}
}

// P17.1: the errors of Join, and which one is told where several would be; none of them changes anything.
func TestJoinErrors(t *testing.T) {
	d := newDraw(1)
	b := newBoth(t, d, shop(), 1, func() api.Id { return api.Id(d.Intn(50)) })
	used := b.m.ring.Id(2)
	b.join(5, 100, 0)
	b.crash(5)
	for _, n := range wrong {
		fails(t, "no address", b.w.Join(n, used, 9), api.ErrArg)
	}
	for _, via := range append([]int{5, 9, 31}, wrong...) {
		fails(t, "used, by one who doesn't live", b.w.Join(0, used, via), api.ErrAddrUsed)
		fails(t, "used once, by one who doesn't live", b.w.Join(5, used, via), api.ErrAddrUsed)
		fails(t, "a used place, by one who doesn't live", b.w.Join(31, used, via), api.ErrDead)
	}
	fails(t, "used once", b.w.Join(5, 200, 0), api.ErrAddrUsed)
	fails(t, "a used place", b.w.Join(31, used, 0), api.ErrCollision)
	b.checkAll()
	// Nobody lies any more where one did who is gone.
	b.join(31, 100, 3)
	b.join(4, math.MaxUint64, 31)
	b.checkAll()
	if !slices.Equal(b.w.Live(), []int{0, 1, 2, 3, 4, 31}) {
		t.Errorf("Live = %v", b.w.Live())
	}
}

// around: a world of one group, whose key's owner is 1; 0, ahead of the key, wants something of it.
func around(t *testing.T) (*world.World, string, api.Id) {
	t.Helper()
	s := value.Schema{{Name: "a", Kind: value.Int, Max: 9}}
	k := group.Key("a.0.0")
	w := founded(t, s, 0, []api.Id{k - 1000, k + 1000, k + 2000, k + 3000})
	subscribed(t, w, 0, "a in 1..2")
	if !w.Calm(1) || !slices.Equal(children(t, w, 1, "a.0.0"), []int{0}) {
		t.Fatal("1 hasn't the wish")
	}
	return w, "a.0.0", k
}

// P17.1: who comes gets the wishes of its head's that lie behind its Pred's place, up to its own, at once.
func TestJoinGetsWishes(t *testing.T) {
	for _, c := range []struct {
		off  int // from the key
		gets bool
	}{{0, true}, {1, true}, {999, true}, {-1, false}, {-999, false}, {1001, false}, {-1001, false}} {
		w, g, k := around(t)
		must(t, w.Join(4, k+api.Id(c.off), 2))
		mine, left := children(t, w, 4, g), children(t, w, 1, g)
		if slices.Equal(mine, []int{0}) != c.gets || len(mine)+len(left) != 1 {
			t.Errorf("at %d: 4 has %v, 1 has %v", c.off, mine, left)
		}
	}
}

// P17.1: those at its Pred's very place stay at its head's.
func TestJoinBehindAKey(t *testing.T) {
	w, g, k := around(t)
	must(t, w.Join(4, k, 0))
	// 0 stabilizes ahead of 4, so that it doesn't know of it yet, and tells 1 again.
	w.Calm(1)
	if !slices.Equal(children(t, w, 1, g), []int{0}) {
		t.Fatalf("1 has %v", children(t, w, 1, g))
	}
	must(t, w.Join(5, k+500, 4))
	if mine, left := children(t, w, 5, g), children(t, w, 1, g); len(mine) != 0 || !slices.Equal(left, []int{0}) {
		t.Errorf("5 has %v, 1 has %v", mine, left)
	}
}

// wishes: all children of a node, by groups.
func wishes(t *testing.T, w *world.World, n int, names []string) map[string][]int {
	t.Helper()
	all := map[string][]int{}
	for _, g := range names {
		if l := children(t, w, n, g); len(l) > 0 {
			all[g] = l
		}
	}
	return all
}

// P17.1: all wishes of one who leaves go to its head, those of which it isn't the root, too; those of one who crashes go.
func TestLeaveAndCrashOfWishes(t *testing.T) {
	t.Parallel()
	names := groupsOf(shop(), 3)
	owned, passed := 0, 0
	for n := 4; n < 20; n++ {
		for _, leaves := range []bool{true, false} {
			w, circle := circled(t, shop(), 3)
			had := wishes(t, w, n, names)
			head := circle[(slices.Index(circle, n)+1)%len(circle)]
			want := wishes(t, w, head, names)
			for g, l := range had {
				if w.Owner(group.Key(g)) == n {
					owned++
				} else {
					passed++
				}
				if leaves {
					all := slices.Concat(want[g], l)
					slices.Sort(all)
					want[g] = slices.DeleteFunc(slices.Compact(all), func(c int) bool { return c == head })
				}
			}
			if leaves {
				must(t, w.Leave(n))
			} else {
				must(t, w.Crash(n))
			}
			if got := wishes(t, w, head, names); fmt.Sprint(got) != fmt.Sprint(want) {
				t.Errorf("%d went, %v: %d has %v; not %v", n, leaves, head, got, want)
			}
		}
	}
	if owned < 10 || passed < 10 {
		t.Errorf("just %d, %d", owned, passed)
	}
}

// circled: a calm world of 20 nodes that all want something, and its nodes by their places.
func circled(t *testing.T, s value.Schema, levels int) (*world.World, []int) {
	t.Helper()
	w := founded(t, s, levels, quarters)
	circle := []int{3}
	for q, base := range []int{0, 1, 2, -1} {
		for i := range 4 {
			n := 4 + 4*q + i
			must(t, w.Join(n, api.Id(q)<<62+api.Id(i+1)<<59, i))
			circle = append(circle, n)
		}
		if base >= 0 {
			circle = append(circle, base)
		}
	}
	d := newDraw(5)
	for n := range 20 {
		subscribed(t, w, n, d.wish(s).text(s))
	}
	if !w.Calm(w.Quiet()) || !w.Ideal() {
		t.Fatal("not calm")
	}
	return w, circle
}

// P17.1: the errors of Leave and Crash: of base members, of one who doesn't live, of one without whom somebody would have nobody behind it.
func TestGoErrors(t *testing.T) {
	d := newDraw(1)
	at := api.Id(0)
	b := newBoth(t, d, shop(), 1, func() api.Id { at += 1000; return at })
	// All three lie behind 0, and fill its list.
	for n := 4; n < 7; n++ {
		b.join(n, 1000+api.Id(n), 0)
	}
	for range 60 {
		b.tick()
	}
	b.subscribe(6, "price in 3..9")
	b.crash(4)
	b.leave(5)
	for _, call := range []func(int) error{b.w.Leave, b.w.Crash} {
		fails(t, "the last one behind 0", call(6), api.ErrBusy)
		for n := range 4 {
			fails(t, "a base member", call(n), api.ErrBusy)
		}
		for _, n := range append([]int{4, 5, 7, 31}, wrong...) {
			fails(t, "one who doesn't live", call(n), api.ErrDead)
		}
	}
	b.checkAll()
	b.tick()
	b.leave(6)
	b.checkAll()
}

// P17.1: each call of one who doesn't live.
func TestCallsOfTheDead(t *testing.T) {
	d := newDraw(1)
	b := newBoth(t, d, shop(), 1, func() api.Id { return api.Id(d.Uint64()) })
	b.join(4, 100, 0)
	b.subscribe(4, "price in 3..9")
	b.publish(4, sale(5, ""))
	b.tick()
	b.poll(4, 0)
	b.crash(4)
	for _, n := range append([]int{4, 5, 31}, wrong...) {
		id, err := b.w.Subscribe(n, "price")
		fails(t, "Subscribe", err, api.ErrDead)
		seq, err := b.w.Publish(n, value.Event{})
		fails(t, "Publish", err, api.ErrDead)
		got, err := b.w.Poll(n, 9)
		fails(t, "Poll", err, api.ErrDead)
		open, err := b.w.Open(n)
		fails(t, "Open", err, api.ErrDead)
		subs, err := b.w.Subs(n)
		fails(t, "Subs", err, api.ErrDead)
		below, err := b.w.Children(n, "price.0.0")
		fails(t, "Children", err, api.ErrDead)
		next, err := b.w.Next(n, 5)
		fails(t, "Next", err, api.ErrDead)
		way, err := b.w.Way(n, 5)
		fails(t, "Way", err, api.ErrDead)
		fails(t, "Unsubscribe", b.w.Unsubscribe(n, 1), api.ErrDead)
		if id != 0 || seq != 0 || len(got) != 0 || len(open) != 0 || len(subs) != 0 || len(below) != 0 || next != 0 || way != 0 || b.w.Lives(n) {
			t.Errorf("%d: %v %v %v %v %v %v %v %v", n, id, seq, got, open, subs, below, next, way)
		}
	}
	b.checkAll()
}

// P17.1: Poll of fewer than none, none, and more than wait.
func TestPoll(t *testing.T) {
	w := founded(t, shop(), 1, quarters)
	subscribed(t, w, 1, "price in 3..9")
	subscribed(t, w, 1, "price in 0..99")
	w.Calm(5)
	for _, p := range []int{5, 6, 70} {
		_, err := w.Publish(3, sale(p, ""))
		must(t, err)
	}
	w.Calm(2)
	for _, c := range []struct{ most, want int }{{-1, 0}, {math.MinInt, 0}, {0, 0}, {2, 2}, {9, 3}, {9, 0}, {math.MaxInt, 0}} {
		if l, err := w.Poll(1, c.most); err != nil || len(l) != c.want {
			t.Errorf("Poll(%d): %v, %v", c.most, l, err)
		}
	}
}
