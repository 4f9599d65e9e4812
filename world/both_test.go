package world_test

import (
	"errors"
	"fmt"
	"math"
	"slices"
	"strings"
	"testing"

	"wigwag/api"
	"wigwag/group"
	"wigwag/node"
	"wigwag/value"
	"wigwag/world"
)

// wrong are ints that no node has as its address.
var wrong = []int{-1, -2, -32, 32, 33, 64, 1 << 40, math.MinInt, math.MaxInt}

// both is a world and its twin. Whatever is handed in or answered is spoilt at once, so that a world which shares it is another one than its twin from then on.
type both struct {
	t     *testing.T
	d     draw
	w     *world.World
	m     *twin
	names []string
	place func() api.Id
	what  string
}

func newBoth(t *testing.T, d draw, s value.Schema, levels int, place func() api.Id) *both {
	t.Helper()
	ids := d.base(place)
	b := &both{t: t, d: d, m: newTwin(s, levels, ids), names: groupsOf(s, levels), place: place}
	handed, seats := slices.Clone(s), slices.Clone(ids)
	w, err := world.New(handed, levels, seats)
	if err != nil {
		t.Fatalf("New(%v, %d, %v): %v", s, levels, ids, err)
	}
	clear(handed)
	clear(seats)
	b.w = w
	return b
}

// told: an error as far as a caller may tell: its code, and the place of its outermost fault.
func told(err error) string {
	var f *api.Fault
	if errors.As(err, &f) {
		return fmt.Sprint(api.Of(err), " at ", f.At)
	}
	return api.Of(err).Error()
}

// same: is an answer's error the twin's?
func (b *both) same(got, want error) {
	b.t.Helper()
	if told(got) != told(want) {
		b.t.Fatalf("%s: %s; not %s", b.what, told(got), told(want))
	}
	call, _, _ := strings.Cut(b.what, "(")
	b.m.counts[call+" "+api.Of(want).Error()]++
}

// number: likewise, with a number beside it, 0 beside an error.
func (b *both) number(got int, err error, want int, fault error) {
	b.t.Helper()
	b.same(err, fault)
	if got != want || err != nil && got != 0 {
		b.t.Fatalf("%s: %d beside %v; not %d", b.what, got, err, want)
	}
}

func (b *both) join(n int, id api.Id, via int) {
	b.t.Helper()
	b.what = fmt.Sprintf("Join(%d, %d, %d)", n, id, via)
	b.same(b.w.Join(n, id, via), b.m.join(n, id, via))
}

func (b *both) leave(n int) {
	b.t.Helper()
	b.what = fmt.Sprintf("Leave(%d)", n)
	b.same(b.w.Leave(n), b.m.gone(n, true))
}

func (b *both) crash(n int) {
	b.t.Helper()
	b.what = fmt.Sprintf("Crash(%d)", n)
	b.same(b.w.Crash(n), b.m.gone(n, false))
}

func (b *both) subscribe(n int, text string) {
	b.t.Helper()
	b.what = fmt.Sprintf("Subscribe(%d, %q)", n, text)
	id, err := b.w.Subscribe(n, text)
	if !b.m.Lives(n) {
		b.number(id, err, 0, api.ErrDead)
		return
	}
	want, fault := b.m.nodes[n].Subscribe(text)
	b.number(id, err, want, fault)
}

func (b *both) unsubscribe(n, id int) {
	b.t.Helper()
	b.what = fmt.Sprintf("Unsubscribe(%d, %d)", n, id)
	err := b.w.Unsubscribe(n, id)
	if !b.m.Lives(n) {
		b.same(err, api.ErrDead)
		return
	}
	b.same(err, b.m.nodes[n].Unsubscribe(id))
}

func (b *both) publish(n int, e value.Event) {
	b.t.Helper()
	b.what = fmt.Sprintf("Publish(%d, %v)", n, e)
	handed := value.Event{Values: slices.Clone(e.Values), Payload: e.Payload}
	seq, err := b.w.Publish(n, handed)
	clear(handed.Values)
	if !b.m.Lives(n) {
		b.number(seq, err, 0, api.ErrDead)
		return
	}
	want, fault := b.m.nodes[n].Publish(e)
	b.number(seq, err, want, fault)
}

func (b *both) poll(n, most int) {
	b.t.Helper()
	b.what = fmt.Sprintf("Poll(%d, %d)", n, most)
	got, err := b.w.Poll(n, most)
	var want []node.Delivery
	if b.m.Lives(n) {
		b.same(err, nil)
		want = b.m.nodes[n].Poll(most)
		b.m.counts["polled"] += len(want)
	} else {
		b.same(err, api.ErrDead)
	}
	if fmt.Sprint(got) != fmt.Sprint(want) {
		b.t.Fatalf("%s: %v; not %v", b.what, got, want)
	}
	for _, x := range got {
		clear(x.Event.Values)
	}
	clear(got)
}

func (b *both) flush() {
	b.t.Helper()
	b.what = "Flush"
	if got, want := b.w.Flush(), b.m.flush(); got != want {
		b.t.Fatalf("Flush: %d, not %d", got, want)
	}
}

func (b *both) tick() {
	b.what = "Tick"
	b.w.Tick()
	b.m.tick()
}

func (b *both) deliver(id int) {
	b.t.Helper()
	b.what = fmt.Sprintf("Deliver(%d)", id)
	b.same(b.w.Deliver(id), b.m.deliver(id))
}

func (b *both) drop(id int) {
	b.t.Helper()
	b.what = fmt.Sprintf("Drop(%d)", id)
	err := b.w.Drop(id)
	_, want := b.m.take(id)
	b.same(err, want)
}

func (b *both) copy(id int) {
	b.t.Helper()
	b.what = fmt.Sprintf("Copy(%d)", id)
	b.same(b.w.Copy(id), b.m.copy(id))
}

func (b *both) settle() {
	b.t.Helper()
	b.what = "Settle"
	got, want := b.w.Settle(), b.m.settle()
	if got != want {
		b.t.Fatalf("Settle: %v", got)
	}
	b.m.counts[fmt.Sprint("Settle ", want)]++
}

func (b *both) calm(rounds int) {
	b.t.Helper()
	b.what = fmt.Sprintf("Calm(%d)", rounds)
	if got, want := b.w.Calm(rounds), b.m.calm(rounds); got != want {
		b.t.Fatalf("Calm(%d): %v", rounds, got)
	}
}

// check asks for what the world has by each call that changes nothing.
func (b *both) check() {
	b.t.Helper()
	packets := b.w.Packets()
	if !slices.Equal(packets, b.m.flight) {
		b.t.Fatalf("%s: %d packets; not %d, or other ones", b.what, len(packets), len(b.m.flight))
	}
	clear(packets)
	live := b.w.Live()
	if !slices.Equal(live, b.m.live()) {
		b.t.Fatalf("%s: Live = %v, not %v", b.what, live, b.m.live())
	}
	if got, want := b.w.Quiet(), 5*len(live)+20; got != want {
		b.t.Fatalf("%s: Quiet = %d, not %d", b.what, got, want)
	}
	clear(live)
	if !b.w.Fits() {
		b.t.Fatalf("%s: it doesn't fit", b.what)
	}
	if got, want := b.w.Ideal(), b.m.ideal(); got != want {
		b.t.Fatalf("%s: Ideal = %v", b.what, got)
	}
	for range 6 {
		b.checkNode(b.d.Intn(36) - 2)
		b.checkPlace(b.d.Intn(36)-2, b.somewhere())
	}
}

// checkNode: likewise, of one node, or of an address that has none.
func (b *both) checkNode(n int) {
	b.t.Helper()
	lives := b.m.Lives(n)
	if b.w.Lives(n) != lives {
		b.t.Fatalf("%s: Lives(%d) = %v", b.what, n, !lives)
	}
	open, err := b.w.Open(n)
	subs, err2 := b.w.Subs(n)
	if !lives {
		if api.Of(err) != api.ErrDead || len(open) != 0 || api.Of(err2) != api.ErrDead || len(subs) != 0 {
			b.t.Fatalf("%s: of %d: Open = %v, %v, Subs = %v, %v", b.what, n, open, err, subs, err2)
		}
		return
	}
	if want := b.m.nodes[n].Open(); !slices.Equal(open, want) || err != nil {
		b.t.Fatalf("%s: Open(%d) = %v, %v; not %v", b.what, n, open, err, want)
	}
	clear(open)
	if want := b.m.nodes[n].Subs(); fmt.Sprint(subs) != fmt.Sprint(want) || err2 != nil {
		b.t.Fatalf("%s: Subs(%d) = %v, %v; not %v", b.what, n, subs, err2, want)
	}
	for _, x := range subs {
		clear(x.Filter)
		clear(x.Groups)
	}
	clear(subs)
}

// somewhere: a place at, just ahead of or just behind a node's or a group's, or any.
func (b *both) somewhere() api.Id {
	x := api.Id(b.d.Uint64())
	switch b.d.Intn(3) {
	case 0:
		x = b.m.ring.Id(b.d.Intn(32))
	case 1:
		x = group.Key(one(b.d, b.names))
	}
	return x + api.Id(b.d.Intn(3)) - 1
}

func (b *both) checkPlace(n int, x api.Id) {
	b.t.Helper()
	if got, want := b.w.Owner(x), b.m.owner(x); got != want {
		b.t.Fatalf("%s: Owner(%d) = %d, not %d", b.what, x, got, want)
	}
	next, err := b.w.Next(n, x)
	want, fault := b.m.Next(n, x)
	if fault != nil {
		want = 0
	}
	if next != want || told(err) != told(fault) {
		b.t.Fatalf("%s: Next(%d, %d) = %d, %v; not %d, %v", b.what, n, x, next, err, want, fault)
	}
	way, err := b.w.Way(n, x)
	want, fault = b.m.way(n, x)
	if way != want || told(err) != told(fault) {
		b.t.Fatalf("%s: Way(%d, %d) = %d, %v; not %d, %v", b.what, n, x, way, err, want, fault)
	}
	b.m.counts["Way "+api.Of(fault).Error()]++
}

// checkAll: likewise, of each address, and whose wishes of each group each node has.
func (b *both) checkAll() {
	b.t.Helper()
	b.check()
	for _, n := range wrong {
		b.checkNode(n)
		b.checkPlace(n, b.somewhere())
	}
	for n := -1; n < 33; n++ {
		b.checkNode(n)
		for _, g := range append([]string{"", "x", "a.0.1"}, b.names...) {
			got, err := b.w.Children(n, g)
			if !b.m.Lives(n) {
				if len(got) != 0 || api.Of(err) != api.ErrDead {
					b.t.Fatalf("%s: Children(%d, %s) = %v, %v", b.what, n, g, got, err)
				}
				continue
			}
			var want []int
			for _, x := range b.m.nodes[n].Children(g) {
				want = append(want, x.Child)
			}
			if !slices.Equal(got, want) || err != nil {
				b.t.Fatalf("%s: Children(%d, %s) = %v, %v; not %v", b.what, n, g, got, err, want)
			}
			clear(got)
		}
	}
}
