package script_test

import (
	"fmt"
	"testing"

	"wigwag/api"
	"wigwag/script"
)

// met: was each of these met so often at least?
func met(t *testing.T, came map[string]int, least int, whats ...string) {
	t.Helper()
	for _, what := range whats {
		if came[what] < least {
			t.Errorf("%s: just %d", what, came[what])
		}
	}
}

// P19.1: long scripts of right and wrong steps, with packets lost, doubled and late; each result is held against a world's answers, what is due against plain lists.
func TestLongScripts(t *testing.T) {
	t.Parallel()
	came := map[string]int{}
	for seed := range 60 {
		d := newDraw(seed)
		g := newStage(t, d, d.schema(), one(d, []int{0, 1, 2, 3, 8}))
		g.withTwin()
		g.came = came
		for range 8 {
			g.run(30, style{churn: 2 + seed%12, mostSubs: 200, wrong: true})
			g.look()
		}
		g.do(script.Step{Kind: script.Calm})
		g.pollAll()
		g.look()
	}
	met(t, came, 10,
		"1 ok", "1 arg", "1 used", "1 dead", "1 collision", "2 ok", "2 busy", "2 dead", "3 ok", "3 busy", "3 dead",
		"4 ok", "4 arg", "4 parse", "4 schema", "4 dead", "5 ok", "5 none", "5 dead", "6 ok", "6 schema", "6 busy", "6 dead",
		"7 ok", "7 dead", "8 ok", "9 ok", "9 none", "9 dead", "10 ok", "10 none", "11 ok", "11 none", "12 answers 1", "13 answers 1",
		"0 arg", "-1 arg", "14 arg", "99 arg", "-9223372036854775808 arg", "9223372036854775807 arg",
		"polled", "due 0", "due 1", "due 2", "due 3", "open ok", "open dead")
}

// P19.2: whatever the script, the board refuses nothing: of any steps each error is nil, and each delivery is of what was published and asked for, and comes once.
func TestTheBoardNeverRefuses(t *testing.T) {
	t.Parallel()
	came := map[string]int{}
	for seed := range 36 {
		d := newDraw(1000 + seed)
		g := newStage(t, d, d.schema(), one(d, []int{0, 1, 2, 3, 4, 8}))
		g.came = came
		if seed%3 == 0 {
			g.populate(5 + d.Intn(28))
		}
		for range 10 {
			g.run(40, style{churn: seed % 10, mostSubs: 100, wrong: seed%2 == 0})
			g.pollAll()
		}
		g.look()
	}
	met(t, came, 100, "polled", "1 ok", "4 ok", "5 ok", "6 ok", "9 ok", "9 dead", "10 ok", "11 ok")
	met(t, came, 20, "2 ok", "3 ok", "6 busy", "2 busy", "3 busy")
}

// trim: subscriptions go until there is room.
func (g *stage) trim() {
	g.t.Helper()
	for len(g.subs) > 12 {
		who := one(g.d, g.subs).who
		g.do(script.Step{Kind: script.Unsubscribe, Node: who.Node, N: who.Sub})
	}
}

// calm: a Calm, events, a Calm, and all poll; then these are due to nobody, and nobody has an event that isn't confirmed.
func (g *stage) calm(events int) {
	g.t.Helper()
	g.trim()
	if r := g.do(script.Step{Kind: script.Calm}); r.N != 1 {
		g.t.Fatalf("Calm: %v", r)
	}
	g.pollAll()
	g.noneOpen()
	var l []told
	for range events {
		n := g.anyone(style{})
		r := g.do(script.Step{Kind: script.Publish, Node: n, Event: g.d.event(g.s)})
		l = append(l, told{n, r.N})
		who, err := g.show.Due(n, r.N)
		if r.Code != api.OK || err != nil {
			g.t.Fatalf("Publish: %v; Due: %v", r, err)
		}
		g.came["were due"] += len(who)
	}
	if r := g.do(script.Step{Kind: script.Calm}); r.N != 1 {
		g.t.Fatalf("Calm: %v", r)
	}
	g.pollAll()
	g.noneOpen()
	for _, e := range l {
		if who, err := g.show.Due(e.pub, e.seq); err != nil || len(who) != 0 {
			g.t.Fatalf("%v is due to %v, %v", e, who, err)
		}
	}
}

// noneOpen: all events are confirmed.
func (g *stage) noneOpen() {
	g.t.Helper()
	for _, n := range g.show.Live() {
		if open, err := g.show.Open(n); err != nil || len(open) != 0 {
			g.t.Fatalf("Open(%d): %v, %v", n, open, err)
		}
	}
}

// P19.3: events that are published in the calm behind any script; and any script behind the calm, and so on.
func TestCalmBehindAnyScript(t *testing.T) {
	t.Parallel()
	came := map[string]int{}
	for seed := range 40 {
		d := newDraw(2000 + seed)
		g := newStage(t, d, d.schema(), one(d, []int{0, 1, 2, 3, 3, 3}))
		g.came = came
		if seed%5 == 0 {
			g.populate(5 + d.Intn(28))
		}
		for turn := range 1 + seed%3 {
			// Of subscriptions that went nothing should stay, however many there were.
			most := 12
			if turn == 1 {
				most = 100
			}
			g.run(20+d.Intn(80), style{churn: seed % 10, mostSubs: most, wrong: seed%2 == 0})
			g.calm(1 + d.Intn(2))
		}
		g.look()
	}
	met(t, came, 50, "were due", "1 ok", "6 ok", "13 answers 1")
	met(t, came, 8, "2 ok", "3 ok")
}

// P19.3: as many subscriptions and groups as there is room for, and as many nodes.
func TestCalmOfManyNodes(t *testing.T) {
	t.Parallel()
	for seed, nodes := range []int{4, 32, 32, 12} {
		d := newDraw(3000 + seed)
		g := newStage(t, d, numbers(7), 3)
		g.populate(nodes)
		for i := range 12 {
			w := wish{{at: i % 4, lo: d.Intn(2), hi: 6 + d.Intn(2)}}
			g.do(script.Step{Kind: script.Subscribe, Node: g.anyone(style{}), Text: g.text(w)})
		}
		for _, n := range g.show.Live() {
			for range 9 {
				g.do(script.Step{Kind: script.Publish, Node: n, Event: d.event(g.s)})
			}
		}
		g.calm(2)
		g.calm(2)
	}
}

// P19.1, P19.3: the same script comes to the same twice, step by step and as one list.
func TestTheSameTwice(t *testing.T) {
	t.Parallel()
	for seed := range 12 {
		d := newDraw(4000 + seed)
		g := newStage(t, d, d.schema(), one(d, []int{0, 2, 3, 8}))
		g.run(150, style{churn: seed, mostSubs: 100, wrong: true})
		g.pollAll()
		other := g.again()
		l, err := other.Play(g.done)
		if err != nil || len(l) != len(g.results) {
			t.Fatalf("Play: %d results of %d, %v", len(l), len(g.results), err)
		}
		for i, r := range l {
			if fmt.Sprint(r) != g.results[i] {
				t.Fatalf("step %d, %v: %v; first it was %s", i, g.done[i], r, g.results[i])
			}
		}
		if a, b := g.state(g.show), g.state(other); a != b {
			t.Fatalf("%s; first it was %s", b, a)
		}
	}
}

// P19.1: beside a refusal nothing has changed: without the steps that were refused a script comes to the same. A packet of one who is gone leaves the bag all the same.
func TestRefusalsChangeNothing(t *testing.T) {
	t.Parallel()
	came := map[string]int{}
	for seed := range 30 {
		d := newDraw(5000 + seed)
		g := newStage(t, d, d.schema(), one(d, []int{0, 2, 3}))
		g.came = came
		g.run(200, style{churn: 2 + seed%10, mostSubs: 200, wrong: true})
		g.do(script.Step{Kind: script.Calm})
		g.pollAll()
		other := g.again()
		for i, x := range g.done {
			left := x.Kind == script.Deliver && g.codes[i] == api.ErrDead
			if g.codes[i] != api.OK && !left {
				continue
			}
			if r, err := other.Do(x); err != nil || fmt.Sprint(r) != g.results[i] {
				t.Fatalf("step %d, %v: %v, %v; with those that were refused it was %s", i, x, r, err, g.results[i])
			}
		}
		if a, b := g.state(g.show), g.state(other); a != b {
			t.Fatalf("%s; with those that were refused it was %s", b, a)
		}
	}
	met(t, came, 5, "1 used", "1 dead", "1 collision", "2 busy", "2 dead", "3 busy", "3 dead", "4 parse", "4 schema", "4 dead", "5 none", "5 dead", "6 schema", "6 busy", "6 dead", "7 dead", "9 dead", "9 none", "10 none", "11 none", "0 arg", "14 arg")
}
