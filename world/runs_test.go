package world_test

import (
	"fmt"
	"math"
	"testing"

	"wigwag/value"
)

// anyone: mostly a node that lives.
func (b *both) anyone() int {
	switch b.d.Intn(12) {
	case 0:
		return b.d.Intn(32)
	case 1:
		return one(b.d, wrong)
	}
	return one(b.d, b.m.live())
}

// packet: mostly the number of one that is on its way.
func (b *both) packet() int {
	if len(b.m.flight) == 0 || b.d.Intn(30) == 0 {
		return one(b.d, []int{-1, 0, 1, b.m.sent, b.m.sent + 1, math.MinInt, math.MaxInt})
	}
	return one(b.d, b.m.flight).Id
}

// noFilters are texts that take nothing of any schema of the tests.
var noFilters = []string{"", "a", "a in", "a in 9..3", "a in 0..1000", "x = \"", "q = \"\"", string(make([]byte, 301))}

// client is one call of a node's clients, drawn.
func (b *both) client() {
	b.t.Helper()
	n := b.anyone()
	switch k := b.d.Intn(20); {
	case k < 6:
		b.subscribe(n, b.d.wish(b.m.s).text(b.m.s))
	case k < 7:
		b.subscribe(n, one(b.d, noFilters))
	case k < 9:
		id := b.d.Intn(20) - 1
		if b.m.Lives(n) {
			for _, s := range b.m.nodes[n].Subs() {
				if b.d.Intn(3) > 0 {
					id = s.Id
				}
			}
		}
		b.unsubscribe(n, id)
	case k < 15:
		for range one(b.d, []int{1, 1, 1, 9}) {
			b.publish(n, b.d.event(b.m.s))
		}
	case k < 16:
		e := b.d.event(b.m.s)
		e.Values = append(e.Values, value.Value{})[b.d.Intn(2)*2:]
		b.publish(n, e)
	default:
		b.poll(n, one(b.d, []int{-1, 0, 1, 5, 64, 1000, math.MinInt, math.MaxInt}))
	}
}

// member is one call by which a node comes or goes, drawn.
func (b *both) member() {
	b.t.Helper()
	switch b.d.Intn(5) {
	case 0:
		b.leave(b.anyone())
	case 1:
		b.crash(b.anyone())
	case 2:
		b.join(b.anyone(), b.place(), b.anyone())
	case 3:
		b.join(b.d.Intn(32), b.m.ring.Id(b.d.Intn(32)), b.anyone())
	default:
		b.join(b.d.Intn(32), b.place(), b.anyone())
	}
}

// fly: packets arrive in any order, are lost, or doubled; or time goes on.
func (b *both) fly(crowd bool) {
	b.t.Helper()
	switch k := b.d.Intn(20); {
	case k < 5:
		b.tick()
	case k < 8:
		b.flush()
	case k < 9 && !crowd:
		b.settle()
	case k < 10 && !crowd:
		b.calm(one(b.d, []int{-1, 0, 1, 2, 3, math.MinInt}))
	case k < 12:
		for range 1 + b.d.Intn(20) {
			b.drop(b.packet())
		}
	case k < 14:
		most := 20
		if crowd {
			most = 2000
		}
		for range 1 + b.d.Intn(most) {
			b.copy(b.packet())
		}
	default:
		for range 1 + b.d.Intn(80) {
			b.deliver(b.packet())
		}
	}
}

// P17.1, P17.5: long rows of calls, right ones and wrong ones, with packets lost, doubled and late; behind each of them the world is held against the chapter's words told a second time.
func TestLongRows(t *testing.T) {
	t.Parallel()
	counts := map[string]int{}
	for seed := range 90 {
		d := newDraw(seed)
		s, levels := d.schema(), one(d, []int{0, 1, 2, 3, 3, 3, 8})
		b := newBoth(t, d, s, levels, d.places(groupsOf(s, levels)))
		b.m.counts = counts
		churn := 1 + seed%5
		for i := range 250 {
			switch k := d.Intn(20); {
			case k < churn:
				b.member()
			case k < 9:
				b.client()
			default:
				b.fly(seed%10 == 9)
			}
			b.what = fmt.Sprint("seed ", seed, ", call ", i, ": ", b.what)
			b.check()
			if i%50 == 49 && levels < 8 {
				b.checkAll()
			}
		}
		b.settle()
		b.calm(3)
		b.checkAll()
	}
	for _, what := range []string{
		"Join ok", "Join arg", "Join used", "Join dead", "Join collision", "wishes by a join", "Leave ok", "Leave dead", "Leave busy", "wishes by a leave",
		"Crash ok", "Crash dead", "Crash busy", "packets to one who is gone", "flushed to one who is gone", "flushed without room",
		"Subscribe ok", "Subscribe dead", "Subscribe parse", "Subscribe schema", "Subscribe arg", "Unsubscribe ok", "Unsubscribe dead", "Unsubscribe none",
		"Publish ok", "Publish dead", "Publish schema", "Publish busy", "Poll ok", "Poll dead", "polled",
		"Deliver ok", "Deliver none", "Deliver dead", "Drop ok", "Drop none", "Copy ok", "Copy none", "Copy full", "Settle true", "Way ok", "Way dead", "Way hops",
	} {
		if counts[what] < 15 {
			t.Errorf("%s: just %d", what, counts[what])
		}
	}
}
