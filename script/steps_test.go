package script_test

import (
	"math"

	"wigwag/script"
)

// style is of what kind a script is.
type style struct {
	churn    int // how often nodes come and go, of 100
	mostSubs int
	wrong    bool // steps that are refused, too
}

// wide are ints that a step may have wherever it has one.
var wide = []int{0, -1, -2, 1, 7, 31, 32, 1000, -1000, 1 << 40, math.MinInt, math.MinInt + 1, math.MaxInt}

// anyone: a node that lives; or, if steps may be wrong, now and then another int.
func (g *stage) anyone(y style) int {
	if y.wrong {
		switch g.d.Intn(12) {
		case 0:
			return g.d.Intn(32)
		case 1:
			return one(g.d, wrong)
		}
	}
	return one(g.d, g.show.Live())
}

// member: a step by which a node comes or goes.
func (g *stage) member(y style) script.Step {
	switch g.d.Intn(6) {
	case 0:
		return script.Step{Kind: script.Leave, Node: g.anyone(y)}
	case 1:
		return script.Step{Kind: script.Crash, Node: g.anyone(y)}
	case 2:
		if y.wrong {
			return script.Step{Kind: one(g.d, []int{script.Join, script.Leave, script.Crash}), Node: one(g.d, wrong), Id: g.place(), N: g.anyone(y)}
		}
	case 3:
		return script.Step{Kind: script.Join, Node: g.d.Intn(32), Id: one(g.d, g.ids), N: g.anyone(y)}
	}
	return script.Step{Kind: script.Join, Node: g.d.Intn(32), Id: g.place(), N: g.anyone(y)}
}

// client: a step of a node's clients.
func (g *stage) client(y style) []script.Step {
	n := g.anyone(y)
	switch k := g.d.Intn(20); {
	case k < 6 && len(g.subs) < y.mostSubs:
		text := g.text(g.d.wish(g.s))
		if y.wrong && g.d.Intn(5) == 0 {
			text = g.d.wrongText(g.s)
		}
		return []script.Step{{Kind: script.Subscribe, Node: n, Text: text}}
	case k < 8 && len(g.subs) > 0:
		who := one(g.d, g.subs).who
		x := script.Step{Kind: script.Unsubscribe, Node: who.Node, N: who.Sub}
		if !y.wrong {
			return []script.Step{x}
		}
		switch g.d.Intn(6) {
		case 0:
			x.N = one(g.d, wide)
		case 1:
			x.Node = g.anyone(y)
		case 2:
			return []script.Step{x, x}
		}
		return []script.Step{x}
	case k < 15:
		x := script.Step{Kind: script.Publish, Node: n, Event: g.d.event(g.s)}
		if y.wrong && g.d.Intn(6) == 0 {
			x.Event = g.d.wrongEvent(g.s)
		}
		if y.wrong && g.d.Intn(8) == 0 {
			return []script.Step{x, x, x, x, x, x, x, x, x}
		}
		return []script.Step{x}
	}
	return []script.Step{{Kind: script.Poll, Node: n, N: one(g.d, []int{-1, 0, 1, 5, 64, 1000, math.MinInt, math.MaxInt})}}
}

// fly: some packets arrive, some are lost, some doubled, in any order.
func (g *stage) fly() []script.Step {
	var l []script.Step
	bad := g.d.Intn(8)
	for range g.d.Intn(60) {
		x := script.Step{Kind: script.Deliver, N: g.d.Intn(200)}
		if g.d.Intn(12) == 0 {
			x.N = one(g.d, wide)
		}
		switch k := g.d.Intn(10); {
		case k >= bad:
		case k < 2:
			x.Kind = script.Copy
		default:
			x.Kind = script.Drop
		}
		l = append(l, x)
	}
	return l
}

// steps: some, drawn.
func (g *stage) steps(y style) []script.Step {
	switch k := g.d.Intn(100); {
	case k < y.churn:
		return []script.Step{g.member(y)}
	case k < 40:
		return g.client(y)
	case k < 65:
		return []script.Step{{Kind: script.Tick}}
	case k < 67:
		return []script.Step{{Kind: script.Settle}}
	case k < 70 && y.wrong:
		return []script.Step{{Kind: one(g.d, []int{0, -1, 14, 99, math.MinInt, math.MaxInt}), Node: g.anyone(y), N: one(g.d, wide), Text: "a in 1..2"}}
	}
	return g.fly()
}

// run: so many times some steps, one by one or as a list.
func (g *stage) run(times int, y style) {
	g.t.Helper()
	for range times {
		l := g.steps(y)
		if g.d.Intn(2) == 0 {
			g.play(l)
			continue
		}
		for _, x := range l {
			g.do(x)
		}
	}
}

// populate: nodes come, so that there are as many as that, if places don't collide too often.
func (g *stage) populate(nodes int) {
	g.t.Helper()
	for n := 4; n < nodes; n++ {
		for range 50 {
			if g.do(script.Step{Kind: script.Join, Node: n, Id: g.place(), N: g.anyone(style{})}).Code == 0 {
				break
			}
		}
	}
}

// pollAll: what waits anywhere.
func (g *stage) pollAll() {
	g.t.Helper()
	for _, n := range g.show.Live() {
		g.do(script.Step{Kind: script.Poll, Node: n, N: 64})
	}
}
