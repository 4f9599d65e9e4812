package world_test

import (
	"fmt"
	"slices"
	"testing"

	"wigwag/api"
	"wigwag/group"
	"wigwag/node"
	"wigwag/value"
	"wigwag/world"
)

// asked is a subscription that is there.
type asked struct {
	node, id int
	wish     wish
}

// lists is a world, and plain lists of what was published and asked for, and of what came.
type lists struct {
	t      *testing.T
	d      draw
	w      *world.World
	s      value.Schema
	names  []string // of all groups
	place  func() api.Id
	events map[[2]int]value.Event // by publisher and number
	subs   []asked
	got    map[[4]int]int // by node, subscription, publisher, number
	came   map[string]int // what was met on the way
}

func newLists(t *testing.T, d draw, s value.Schema, levels int) *lists {
	t.Helper()
	l := &lists{t: t, d: d, s: s, names: groupsOf(s, levels), events: map[[2]int]value.Event{}, got: map[[4]int]int{}, came: map[string]int{}}
	l.place = d.places(l.names)
	w, err := world.New(s, levels, d.base(l.place))
	if err != nil {
		t.Fatal(err)
	}
	l.w = w
	return l
}

func (l *lists) anyone() int { return one(l.d, l.w.Live()) }

func (l *lists) subscribe(n int, x wish) {
	l.t.Helper()
	id, err := l.w.Subscribe(n, x.text(l.s))
	switch {
	case err == nil:
		l.subs = append(l.subs, asked{n, id, x})
	case api.Of(err) != api.ErrFull:
		l.t.Fatalf("Subscribe(%d, %q): %v", n, x.text(l.s), err)
	}
}

func (l *lists) unsubscribe() {
	l.t.Helper()
	i := l.d.Intn(len(l.subs))
	if err := l.w.Unsubscribe(l.subs[i].node, l.subs[i].id); err != nil {
		l.t.Fatalf("Unsubscribe(%v): %v", l.subs[i], err)
	}
	l.subs = slices.Delete(l.subs, i, i+1)
}

func (l *lists) publish(n int, e value.Event) int {
	l.t.Helper()
	seq, err := l.w.Publish(n, e)
	switch {
	case err == nil:
		l.events[[2]int{n, seq}] = e
	case api.Of(err) != api.ErrBusy:
		l.t.Fatalf("Publish(%d, %v): %v", n, e, err)
	}
	l.came["publish "+api.Of(err).Error()]++
	return seq
}

// populate: nodes come, so that there are so many.
func (l *lists) populate(nodes int) {
	for n := 4; n < nodes; n++ {
		// Where places collide again and again there are fewer.
		for range 50 {
			if l.w.Join(n, l.place(), l.anyone()) == nil {
				break
			}
		}
	}
}

// goes: a node leaves, or crashes, and its subscriptions with it, if it may.
func (l *lists) goes(n int) {
	call, name := l.w.Leave, "leave "
	if l.d.Intn(2) == 0 {
		call, name = l.w.Crash, "crash "
	}
	err := call(n)
	l.came[name+api.Of(err).Error()]++
	if err == nil {
		l.subs = slices.DeleteFunc(l.subs, func(x asked) bool { return x.node == n })
	}
}

// poll: P17.2: each delivery is of an event that was published so, for a subscription that is there, and takes it, and got it not yet.
func (l *lists) poll(n, most int) {
	l.t.Helper()
	got, err := l.w.Poll(n, most)
	if err != nil || len(got) > 64 {
		l.t.Fatalf("Poll(%d, %d): %d, %v", n, most, len(got), err)
	}
	for _, d := range got {
		e, here := l.events[[2]int{d.Pub, d.Seq}]
		if !here || fmt.Sprint(e) != fmt.Sprint(d.Event) {
			l.t.Fatalf("%d: %v was published as %v, %v", n, d, e, here)
		}
		at := slices.IndexFunc(l.subs, func(x asked) bool { return x.node == n && x.id == d.Sub })
		if at < 0 || !l.subs[at].wish.takes(l.s, e) {
			l.t.Fatalf("%d: %v isn't what was asked for", n, d)
		}
		key := [4]int{n, d.Sub, d.Pub, d.Seq}
		if l.got[key]++; l.got[key] > 1 {
			l.t.Fatalf("%d: %v came twice", n, d)
		}
	}
	l.came["polled"] += len(got)
}

// pollAll: what waits anywhere.
func (l *lists) pollAll() {
	l.t.Helper()
	for _, n := range l.w.Live() {
		l.poll(n, 64)
	}
}

// fly: of the packets on their way, in any order, some arrive, some are lost, some doubled, some stay.
func (l *lists) fly() {
	l.t.Helper()
	all := l.w.Packets()
	l.d.Shuffle(len(all), func(i, j int) { all[i], all[j] = all[j], all[i] })
	bad := l.d.Intn(8)
	for _, p := range all[:min(len(all), 300)] {
		var err error
		switch k := l.d.Intn(10); {
		case k >= bad:
			err = l.w.Deliver(p.Id)
		case k == 0:
			err = l.w.Copy(p.Id)
		case k < 4:
			err = l.w.Drop(p.Id)
		}
		switch api.Of(err) {
		case api.ErrDead:
			if l.w.Lives(p.From) {
				l.t.Fatalf("Deliver of a packet of %d: %v", p.From, err)
			}
			l.came["of one who is gone"]++
		case api.OK, api.ErrFull:
		default:
			l.t.Fatalf("packet %d: %v", p.Id, err)
		}
	}
}

// step is one call, or some, drawn; churn: how often nodes come and go, of 100.
func (l *lists) step(mostSubs, churn int) {
	l.t.Helper()
	switch k := l.d.Intn(100); {
	case k < churn:
		if l.d.Intn(3) > 0 {
			l.came["join "+api.Of(l.w.Join(l.d.Intn(32), l.place(), l.anyone())).Error()]++
		} else {
			l.goes(l.anyone())
		}
	case k < churn+1:
		for _, n := range l.w.Live() {
			if churn > 5 && l.d.Intn(2) == 0 {
				l.goes(n)
			}
		}
	case k < 24:
		if len(l.subs) < mostSubs {
			l.subscribe(l.anyone(), l.d.wish(l.s))
		}
	case k < 28:
		if len(l.subs) > 0 {
			l.unsubscribe()
		}
	case k < 40:
		l.publish(l.anyone(), l.d.event(l.s))
	case k < 45:
		l.poll(l.anyone(), l.d.Intn(70))
	case k < 60:
		l.w.Tick()
	case k < 70:
		l.w.Flush()
	default:
		l.fly()
	}
	if !l.w.Fits() || len(l.w.Packets()) > 4000 {
		l.t.Fatal("it doesn't fit")
	}
}

// edge is a child, and who has its wish.
type edge struct {
	above, child int
}

// tree: the edges that a group's tree should have: those of the ways of all nodes that have a subscription in it.
func (l *lists) tree(g string) map[edge]int {
	l.t.Helper()
	want := map[edge]int{}
	for _, n := range l.w.Live() {
		subs, err := l.w.Subs(n)
		if err != nil {
			l.t.Fatal(err)
		}
		if !slices.ContainsFunc(subs, func(x node.Sub) bool { return slices.Contains(x.Groups, g) }) {
			continue
		}
		way, err := l.w.Way(n, group.Key(g))
		if err != nil || way > 65 {
			l.t.Fatalf("Way(%d, %s) = %d, %v", n, g, way, err)
		}
		l.came["longest way"] = max(l.came["longest way"], way)
		for range way - 1 {
			next, err := l.w.Next(n, group.Key(g))
			if err != nil {
				l.t.Fatal(err)
			}
			want[edge{next, n}]++
			n = next
		}
		if n != l.w.Owner(group.Key(g)) {
			l.t.Fatalf("%d isn't the root of %s", n, g)
		}
	}
	return want
}

// small: P17.4: each group's tree has just the nodes that should be in it, and each way ends soon.
func (l *lists) small() {
	l.t.Helper()
	for _, g := range l.names {
		want := l.tree(g)
		has := 0
		for _, n := range l.w.Live() {
			children, err := l.w.Children(n, g)
			if err != nil {
				l.t.Fatal(err)
			}
			for _, c := range children {
				if want[edge{n, c}] == 0 {
					l.t.Fatalf("%s: %d is a child of %d", g, c, n)
				}
			}
			has += len(children)
			if k, err := l.w.Way(n, group.Key(g)); err != nil || k < 1 || k > 65 {
				l.t.Fatalf("Way(%d, %s) = %d, %v", n, g, k, err)
			}
		}
		if has != len(want) {
			l.t.Fatalf("%s: %d edges; not %d", g, has, len(want))
		}
		l.came["edges"] += has
	}
}

// calm: P17.3, P17.4: Calm behind whatever was ahead; two events that are published then get to all that take them, once, and are confirmed.
func (l *lists) calm() {
	l.t.Helper()
	if !l.w.Calm(l.w.Quiet()) || !l.w.Ideal() {
		l.t.Fatal("it doesn't get calm")
	}
	l.small()
	l.pollAll()
	l.noneOpen()
	before, due := len(l.got), map[[4]int]bool{}
	for range 2 {
		n, e := l.anyone(), l.d.event(l.s)
		seq := l.publish(n, e)
		if seq == 0 {
			l.t.Fatalf("%d is busy", n)
		}
		for _, x := range l.subs {
			if x.wish.takes(l.s, e) {
				due[[4]int{x.node, x.id, n, seq}] = true
			}
		}
	}
	if !l.w.Calm(l.w.Quiet()) || !l.w.Ideal() {
		l.t.Fatal("it doesn't stay calm")
	}
	l.pollAll()
	l.noneOpen()
	for x := range due {
		if l.got[x] != 1 {
			l.t.Fatalf("%v didn't come", x)
		}
	}
	if len(l.got)-before != len(due) {
		l.t.Fatalf("%d came; not %d", len(l.got)-before, len(due))
	}
	l.came["due"] += len(due)
	l.small()
}

// noneOpen: all events are confirmed.
func (l *lists) noneOpen() {
	l.t.Helper()
	for _, n := range l.w.Live() {
		if open, err := l.w.Open(n); err != nil || len(open) > 0 {
			l.t.Fatalf("Open(%d) = %v, %v", n, open, err)
		}
	}
}
