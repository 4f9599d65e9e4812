package world_test

import (
	"testing"

	"wigwag/api"
	"wigwag/group"
	"wigwag/value"
)

// met: was each of these met so often at least?
func met(t *testing.T, came map[string]int, least int, whats ...string) {
	t.Helper()
	for _, what := range whats {
		if came[what] < least {
			t.Errorf("%s: just %d", what, came[what])
		}
	}
}

// P17.2, P17.5: any calls, with packets lost, doubled and late, and more subscriptions than there is room for.
func TestSafe(t *testing.T) {
	t.Parallel()
	came := map[string]int{}
	for seed := range 60 {
		d := newDraw(1000 + seed)
		l := newLists(t, d, d.schema(), one(d, []int{0, 1, 2, 3, 4, 8}))
		l.came = came
		if seed%3 == 0 {
			l.populate(5 + d.Intn(28))
		}
		for range 300 {
			l.step(100, seed%8)
		}
		l.w.Settle()
		l.pollAll()
	}
	met(t, came, 20, "polled", "publish ok", "publish busy", "join ok", "join used", "leave ok", "leave busy", "crash ok", "crash busy", "of one who is gone")
}

// P17.3, P17.4, P17.5: events that are published in the calm behind any calls; and any calls behind the calm, and so on.
func TestCalmBehindAnyCalls(t *testing.T) {
	t.Parallel()
	came := map[string]int{}
	for seed := range 50 {
		d := newDraw(2000 + seed)
		l := newLists(t, d, d.schema(), one(d, []int{0, 1, 2, 3, 3, 3}))
		l.came = came
		if seed%5 == 0 {
			l.populate(5 + d.Intn(28))
		}
		for turn := range 1 + seed%3 {
			// Wishes of subscriptions that went shouldn't stay, however many there were.
			most := 12
			if turn == 1 {
				most = 100
			}
			for range 40 + d.Intn(150) {
				l.step(most, seed%10)
			}
			for len(l.subs) > 12 {
				l.unsubscribe()
			}
			l.calm()
		}
	}
	met(t, came, 100, "due", "edges", "join ok", "publish ok")
	met(t, came, 20, "leave ok", "crash ok", "of one who is gone")
	met(t, came, 4, "longest way")
}

// numbers is a schema that has as many groups as there may be of so many levels.
func numbers(most int) value.Schema {
	var s value.Schema
	for _, name := range []string{"a", "b", "c", "d"} {
		s = append(s, value.Attr{Name: name, Kind: value.Int, Max: most})
	}
	return s
}

// wide are ranges of eight cells that together have many groups.
var wide = [][2]int{{1, 6}, {0, 2}, {5, 7}, {3, 4}, {1, 4}, {3, 6}, {0, 6}, {1, 7}}

// P17.3, P17.4: as many subscriptions, groups and events as there is room for; all nodes publish all they may ahead of the calm.
func TestCalmWithoutRoomToSpare(t *testing.T) {
	t.Parallel()
	for seed := range 8 {
		d := newDraw(3000 + seed)
		l := newLists(t, d, numbers(7), 3)
		l.populate([]int{4, 6, 32, 12}[seed%4])
		crowded := l.anyone()
		for i := range 12 {
			r := one(d, wide)
			x := wish{{at: i % 4, lo: r[0], hi: r[1]}}
			if d.Intn(2) == 0 {
				l.subscribe(crowded, x)
			} else {
				l.subscribe(l.anyone(), x)
			}
		}
		for _, n := range l.w.Live() {
			for range 9 {
				l.publish(n, d.event(l.s))
			}
		}
		l.calm()
		l.calm()
	}
}

// P17.3, P17.4: places on a ladder, each half as far ahead of a group's key as the next one: ways are as long as they get; they end behind all subscriptions.
func TestCalmOnALadder(t *testing.T) {
	t.Parallel()
	d := newDraw(7)
	l := newLists(t, d, shop(), 2)
	foot := group.Key("price.2.1")
	for n := 4; n < 32; n++ {
		if err := l.w.Join(n, foot-1<<(2*n), n%4); err != nil {
			t.Fatal(err)
		}
	}
	for n := range 12 {
		l.subscribe(31-n, wish{{at: 0, lo: 25, hi: 49}})
	}
	l.calm()
	for range 12 {
		l.unsubscribe()
	}
	l.calm()
	met(t, l.came, 8, "longest way")
}

// P17.3, P17.4: nodes come and go on the ways of subscriptions, one by one, with a calm behind each.
func TestNodesOnTheWay(t *testing.T) {
	t.Parallel()
	for seed := range 3 {
		d := newDraw(4000 + seed)
		l := newLists(t, d, shop(), 2)
		for i := range 12 {
			l.subscribe(i%4, d.wish(l.s))
		}
		l.calm()
		for n := 4; n < 12; n++ {
			// At a group's key: that group's root from now on.
			g := one(d, l.names)
			if err := l.w.Join(n, group.Key(g), n%4); err != nil && api.Of(err) != api.ErrCollision {
				t.Fatal(err)
			}
			l.calm()
		}
		for n := 4; n < 12; n++ {
			if l.w.Lives(n) {
				l.goes(n)
				l.calm()
			}
		}
	}
}

// P17.1: Quiet hangs on how many live.
func TestQuiet(t *testing.T) {
	t.Parallel()
	d := newDraw(1)
	l := newLists(t, d, shop(), 3)
	l.place = func() api.Id { return api.Id(d.Uint64()) }
	for n := 4; n <= 32; n++ {
		if got, want := l.w.Quiet(), 5*n+20; got != want || len(l.w.Live()) != n {
			t.Errorf("of %d: Quiet = %d, not %d", n, got, want)
		}
		if n < 32 {
			if err := l.w.Join(n, l.place(), 0); err != nil {
				t.Fatal(err)
			}
		}
	}
	if err := l.w.Leave(9); err != nil || l.w.Quiet() != 175 {
		t.Errorf("of 31: %v, Quiet = %d", err, l.w.Quiet())
	}
}
