package script_test

import (
	"fmt"
	"slices"
	"testing"

	"wigwag/api"
	"wigwag/board"
	"wigwag/node"
	"wigwag/script"
	"wigwag/value"
	"wigwag/world"
)

// twin answers a step a second time, by a world of its own.
type twin struct {
	w *world.World
}

func (m twin) do(x script.Step) script.Result {
	var r script.Result
	var err error
	yes := false
	switch x.Kind {
	case 1:
		err = m.w.Join(x.Node, x.Id, x.N)
	case 2:
		err = m.w.Leave(x.Node)
	case 3:
		err = m.w.Crash(x.Node)
	case 4:
		r.N, err = m.w.Subscribe(x.Node, x.Text)
	case 5:
		err = m.w.Unsubscribe(x.Node, x.N)
	case 6:
		r.N, err = m.w.Publish(x.Node, x.Event)
	case 7:
		r.Got, err = m.w.Poll(x.Node, x.N)
	case 8:
		m.w.Tick()
	case 9:
		err = m.w.Deliver(m.packet(x.N))
	case 10:
		err = m.w.Drop(m.packet(x.N))
	case 11:
		err = m.w.Copy(m.packet(x.N))
	case 12:
		yes = m.w.Settle()
	case 13:
		yes = m.w.Calm(m.w.Quiet())
	default:
		err = api.ErrArg
	}
	if r.Code = api.Of(err); r.Code != api.OK {
		return script.Result{Code: r.Code}
	}
	if yes {
		r.N = 1
	}
	return r
}

// packet: below 0 they are counted from the end on, so that -1 is the last one.
func (m twin) packet(n int) int {
	l := m.w.Packets()
	switch k := len(l); {
	case k == 0:
		return 0
	case n < 0:
		return l[k-1-(-(n+1))%k].Id
	default:
		return l[n%k].Id
	}
}

// stage is a show, the bulletin told a second time, and perhaps a twin; whatever is handed in or answered is spoilt at once, so that a show which shares it goes wrong from then on.
type stage struct {
	lists
	t       *testing.T
	d       draw
	levels  int
	ids     []api.Id
	place   func() api.Id
	show    *script.Show
	twin    *twin
	done    []script.Step
	codes   []api.Code // of the results
	results []string
	came    map[string]int // what was met on the way
}

func newStage(t *testing.T, d draw, s value.Schema, levels int) *stage {
	t.Helper()
	g := &stage{lists: newLists(s), t: t, d: d, levels: levels, place: d.places(groupsOf(s, min(levels, 4))), came: map[string]int{}}
	g.ids = d.base(g.place)
	g.show = g.again()
	return g
}

// again: a new show of the same schema, levels and places.
func (g *stage) again() *script.Show {
	g.t.Helper()
	s, ids := slices.Clone(g.s), slices.Clone(g.ids)
	show, err := script.New(s, g.levels, ids)
	if err != nil || show == nil {
		g.t.Fatalf("New(%v, %d, %v): %v", g.s, g.levels, g.ids, err)
	}
	if !slices.Equal(s, g.s) || !slices.Equal(ids, g.ids) {
		g.t.Fatalf("New changed what it was handed: %v, %v", s, ids)
	}
	clear(s)
	clear(ids)
	return show
}

// withTwin: from now on each step is held against a world's answers.
func (g *stage) withTwin() {
	g.t.Helper()
	w, err := world.New(g.s, g.levels, g.ids)
	if err != nil {
		g.t.Fatal(err)
	}
	g.twin = &twin{w}
}

var spoilt = value.Value{Num: -77, Str: "spoilt"}

// roomy: a step whose event's values have room behind them.
func roomy(x script.Step) script.Step {
	l := append(make([]value.Value, 0, len(x.Event.Values)+2), x.Event.Values...)
	l[:cap(l)][len(l)] = spoilt
	x.Event.Values = l
	return x
}

// spoil: a step that was handed in isn't changed; from now on it is another one.
func (g *stage) spoil(handed, x script.Step) {
	g.t.Helper()
	l := handed.Event.Values
	if fmt.Sprint(handed) != fmt.Sprint(x) || l[:cap(l)][len(l)] != spoilt || l[:cap(l)][len(l)+1] != (value.Value{}) {
		g.t.Fatalf("the step %v is %v, %v", x, handed, l[:cap(l)])
	}
	l = l[:cap(l)]
	for i := range l {
		l[i] = spoilt
	}
}

// spoilGot: no two deliveries share memory.
func (g *stage) spoilGot(l []node.Delivery) {
	g.t.Helper()
	for i, x := range l {
		before := fmt.Sprint(l[i+1:])
		v := x.Event.Values[:cap(x.Event.Values)]
		for k := range v {
			v[k] = spoilt
		}
		if fmt.Sprint(l[i+1:]) != before {
			g.t.Fatalf("delivery %d shares memory with %v", i, l[i+1:])
		}
	}
	clear(l[:cap(l)])
}

// do: one step.
func (g *stage) do(x script.Step) script.Result {
	g.t.Helper()
	handed := roomy(x)
	r, err := g.show.Do(handed)
	if err != nil {
		g.t.Fatalf("step %d, %v: %v", len(g.done), x, err)
	}
	g.spoil(handed, x)
	g.take(x, r)
	return r
}

// play: some steps, as one list.
func (g *stage) play(l []script.Step) {
	g.t.Helper()
	handed := make([]script.Step, len(l))
	for i, x := range l {
		handed[i] = roomy(x)
	}
	rs, err := g.show.Play(handed)
	if err != nil || len(rs) != len(l) {
		g.t.Fatalf("Play of %v: %d results, %v", l, len(rs), err)
	}
	for i, x := range l {
		g.spoil(handed[i], x)
		g.take(x, rs[i])
	}
}

// take: what came of a step.
func (g *stage) take(x script.Step, r script.Result) {
	g.t.Helper()
	answer := fmt.Sprint(r)
	if g.twin != nil {
		if want := fmt.Sprint(g.twin.do(x)); answer != want {
			g.t.Fatalf("step %d, %v: %s; not %s", len(g.done), x, answer, want)
		}
	}
	if r.Code != api.OK && (r.N != 0 || len(r.Got) != 0) {
		g.t.Fatalf("step %d, %v: %s", len(g.done), x, answer)
	}
	if r.Code == api.OK {
		g.note(g.t, x, r)
	}
	g.came[fmt.Sprint(x.Kind, " ", r.Code)]++
	g.came["polled"] += len(r.Got)
	if x.Kind == script.Settle || x.Kind == script.Calm {
		g.came[fmt.Sprint(x.Kind, " answers ", r.N)]++
	}
	g.spoilGot(r.Got)
	g.done = append(g.done, x)
	g.codes = append(g.codes, r.Code)
	g.results = append(g.results, answer)
}

// look: all that is told by calls that change nothing.
func (g *stage) look() {
	g.t.Helper()
	if n := g.show.Subs(); n != len(g.subs) {
		g.t.Fatalf("Subs: %d, not %d", n, len(g.subs))
	}
	for e := range g.events {
		g.lookDue(e)
		g.lookDue(told{e.seq, e.pub})
		g.lookDue(told{e.pub, e.seq + 1})
		g.lookDue(told{-e.pub - 1, -e.seq})
	}
	if g.twin == nil {
		return
	}
	for range 2 {
		live := g.show.Live()
		if !slices.Equal(live, g.twin.w.Live()) {
			g.t.Fatalf("Live: %v, not %v", live, g.twin.w.Live())
		}
		clear(live[:cap(live)])
	}
	for n := -1; n < 33; n++ {
		g.lookOpen(n)
	}
	g.lookOpen(one(g.d, wrong))
}

func (g *stage) lookDue(e told) {
	g.t.Helper()
	want, code := g.due(e)
	// Asked twice: what was answered is the caller's.
	for range 2 {
		who, err := g.show.Due(e.pub, e.seq)
		if api.Of(err) != code || !slices.Equal(who, want) {
			g.t.Fatalf("Due(%d, %d): %v, %v; not %v, %v", e.pub, e.seq, who, err, want, code)
		}
		for i := range who {
			who[i] = board.Who{Node: -77, Sub: -77}
		}
	}
	g.came[fmt.Sprint("due ", min(len(want), 3))]++
}

func (g *stage) lookOpen(n int) {
	g.t.Helper()
	want, fault := g.twin.w.Open(n)
	for range 2 {
		open, err := g.show.Open(n)
		if api.Of(err) != api.Of(fault) || !slices.Equal(open, want) {
			g.t.Fatalf("Open(%d): %v, %v; not %v, %v", n, open, err, want, fault)
		}
		clear(open[:cap(open)])
	}
	g.came["open "+api.Of(fault).Error()] += 1 + len(want)
}

// state: all that a show tells by calls that change nothing, as a text.
func (g *stage) state(s *script.Show) string {
	l := []any{s.Live(), s.Subs()}
	for n := range 32 {
		open, err := s.Open(n)
		l = append(l, open, err)
		for seq := range len(g.events) + 2 {
			who, err := s.Due(n, seq)
			l = append(l, who, err)
		}
	}
	return fmt.Sprint(l...)
}
