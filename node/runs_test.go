package node_test

import (
	"fmt"
	"math/rand"
	"testing"

	"wigwag/api"
	"wigwag/dyad"
	"wigwag/group"
	"wigwag/table"
)

// groupsOf: the names of all groups of the shop, and some that are none of its.
func groupsOf(levels int) []string {
	l := []string{"x", "price.0.0.0", "price.1"}
	for _, a := range shop() {
		for level := range levels + 1 {
			for i := range 1 << level {
				l = append(l, group.Name(a.Name, dyad.Interval{Level: level, Index: i}))
			}
		}
	}
	return l
}

// step is one call, drawn.
func (b *both) step(d draw, now *int) {
	b.t.Helper()
	from := d.Intn(5)
	switch n := d.Intn(100); {
	case n < 8:
		b.subscribe(filters[d.Intn(len(filters))])
	case n < 10:
		k := d.Intn(len(noFilters))
		b.refuseSubscribe(noFilters[k], []api.Code{api.ErrParse, api.ErrParse, api.ErrSchema, api.ErrSchema, api.ErrSchema, api.ErrSchema, api.ErrArg, api.ErrArg}[k])
	case n < 15:
		b.unsubscribe(d.Intn(b.w.made + 2))
	case n < 25:
		b.publish(d.event())
	case n < 30:
		b.poll([]int{-1, 0, 1, 3, 10, 64, 1000}[d.Intn(min(7, 2+d.calm))])
	case n < 38:
		*now += d.Intn(3)
		b.tick(*now)
	case n < 50:
		b.packets(func() bool { return d.Intn(4) > 0 })
	case n < 73:
		if from != b.w.addr && !b.e.dead[from] {
			b.say(from, d.message(b.w))
		}
	case n < 75:
		_ = b.peer(from).Push([]string{"", "\x00", "\x04\x00", "\x04\x01gg", "\x02\x01g\x03", "\x0c\x01g", "\x0a\x01g\x40\x02"}[d.Intn(7)])
	case n < 93:
		for _, p := range b.peer(from).Packets() {
			for range d.Intn(3) {
				b.take(from, p)
			}
		}
	case n < 95:
		b.take(d.Intn(34)-1, []string{"", "\x00", "\x01\x00\x00", "\x01\x00\x01x", "\x03\x00\x00", "\x80\x00"}[d.Intn(6)])
	case n < 97:
		b.getSome(d, *now)
	default:
		b.stir(d)
	}
}

func (b *both) getSome(d draw, now int) {
	var l []table.Entry
	for range d.Intn(6) {
		x := d.wish()
		x.Child, x.Till = d.Intn(7)-1, now+d.Intn(8)-2
		l = append(l, x)
	}
	b.get(l)
}

// stir: something that takes much away, or changes the ways.
func (b *both) stir(d draw) {
	b.t.Helper()
	switch n := d.Intn(3 * d.calm); {
	case n == 0:
		k := group.Key(d.one(d.groups))
		b.hand(k-api.Id(d.Intn(2)), k+api.Id(d.Intn(2)))
	case n == 1:
		b.hand(group.Key(d.one(d.groups)), group.Key(d.one(d.groups)))
	case n == 2:
		if p := d.Intn(20); p < 5 && p != b.w.addr {
			b.e.dead[p] = true
		}
	default:
		b.e.at[group.Key(d.one(d.groups))] = d.answer(b.w.addr)
	}
}

// P16.1 to P16.4, and each call: long rows of calls of one node among peers that tell it anything; behind each of them the whole node is held against the chapter's words.
func TestLongRows(t *testing.T) {
	counts := map[string]int{}
	for seed := range 150 {
		d := draw{Rand: rand.New(rand.NewSource(int64(seed))), groups: groupsOf(seed % 3), calm: 1 + seed%5}
		if seed%4 == 0 {
			// Few groups, so that each is wanted by many.
			d.groups = d.groups[3:min(6, len(d.groups))]
		}
		b := start(t, seed%5, seed%3, always(seed%5))
		b.w.counts = counts
		for _, g := range d.groups {
			b.e.at[group.Key(g)] = d.answer(b.w.addr)
		}
		now := -2
		for i := range 500 {
			b.what = fmt.Sprint("seed ", seed, ", call ", i)
			b.step(d, &now)
			b.check()
		}
	}
	for _, what := range []string{
		"subscribe ok", "subscribe full", "unsubscribe ok", "unsubscribe none", "unsubscribed what waits", "publish ok", "publish schema", "publish busy", "polled",
		"take ok", "take dead", "take end", "take form", "take arg", "kind 1", "kind 2", "kind 3", "kind 4", "kind 5", "root", "confirmed", "pruned", "expired", "orphans", "links gone",
		"handed", "gotten", "gotten of itself", "too long a wish", "down again", "down to a child", "down not to a child", "not of the shop", "to one who doesn't live",
		"lost: no next one", "lost: message", "lost: too far", "lost: stale", "lost: delivery",
	} {
		if counts[what] < 30 {
			t.Errorf("%s: just %d", what, counts[what])
		}
	}
}
