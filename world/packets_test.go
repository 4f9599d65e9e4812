package world_test

import (
	"fmt"
	"math"
	"slices"
	"testing"

	"wigwag/api"
	"wigwag/bag"
	"wigwag/group"
	"wigwag/value"
	"wigwag/world"
)

// busy: a world in which node 4 and the others tell each other much, with a tick's packets on their way.
func busy(t *testing.T) *world.World {
	t.Helper()
	w := founded(t, shop(), 1, quarters)
	for n := range 4 {
		subscribed(t, w, n, "price in 0..99")
	}
	must(t, w.Join(4, group.Key("price.0.0"), 0))
	subscribed(t, w, 4, "price in 0..20")
	w.Calm(w.Quiet())
	for n := range 5 {
		_, err := w.Publish(n, sale(9*n, "a"))
		must(t, err)
	}
	w.Tick()
	return w
}

// numberOf: the packets of which this is so.
func numberOf(l []bag.Packet, is func(bag.Packet) bool) int {
	return len(slices.DeleteFunc(slices.Clone(l), func(p bag.Packet) bool { return !is(p) }))
}

// P17.1: with a node that is gone the packets to it go; those of it stay, and are ErrDead when they are delivered, and out of the bag all the same.
func TestPacketsOfOneWhoIsGone(t *testing.T) {
	for _, leaves := range []bool{true, false} {
		w := busy(t)
		before := w.Packets()
		to := numberOf(before, func(p bag.Packet) bool { return p.To == 4 })
		from := numberOf(before, func(p bag.Packet) bool { return p.From == 4 })
		if to == 0 || from == 0 {
			t.Fatalf("%d to 4, %d of 4", to, from)
		}
		if leaves {
			must(t, w.Leave(4))
		} else {
			must(t, w.Crash(4))
		}
		left := slices.DeleteFunc(slices.Clone(before), func(p bag.Packet) bool { return p.To == 4 })
		if got := w.Packets(); !slices.Equal(got, left) {
			t.Fatalf("%d packets, not %d, or other ones", len(got), len(left))
		}
		for _, p := range left {
			if p.From != 4 {
				continue
			}
			fails(t, "of one who is gone", w.Deliver(p.Id), api.ErrDead)
			fails(t, "the same again", w.Deliver(p.Id), api.ErrNone)
		}
		if got := len(w.Packets()); got != len(left)-from {
			t.Errorf("%d packets, not %d", got, len(left)-from)
		}
		// The others' links to 4 are still there: what they send doesn't come into the bag.
		sent := w.Flush()
		if got := w.Packets(); sent == 0 || len(got) != len(left)-from+sent || slices.ContainsFunc(got, func(p bag.Packet) bool { return p.To == 4 || p.From == 4 }) {
			t.Errorf("Flush: %d, %v", sent, got)
		}
	}
}

// P17.1: numbers of packets that aren't there.
func TestNoSuchPacket(t *testing.T) {
	w := busy(t)
	all := w.Packets()
	taken := []int{all[0].Id, all[2].Id, all[len(all)-1].Id}
	must(t, w.Deliver(taken[0]))
	must(t, w.Drop(taken[1]))
	must(t, w.Drop(taken[2]))
	rest := w.Packets()
	if len(rest) != len(all)-3 {
		t.Fatalf("%d packets of %d", len(rest), len(all))
	}
	for _, id := range append([]int{0, -1, -2, all[len(all)-1].Id + 1, math.MinInt, math.MaxInt}, taken...) {
		fails(t, fmt.Sprint("Deliver ", id), w.Deliver(id), api.ErrNone)
		fails(t, fmt.Sprint("Drop ", id), w.Drop(id), api.ErrNone)
		fails(t, fmt.Sprint("Copy ", id), w.Copy(id), api.ErrNone)
	}
	if !slices.Equal(w.Packets(), rest) {
		t.Error("something changed")
	}
	must(t, w.Copy(rest[1].Id))
	more := w.Packets()
	want := bag.Packet{Id: taken[2] + 1, From: rest[1].From, To: rest[1].To, Text: rest[1].Text}
	if !slices.Equal(more, append(rest, want)) {
		t.Errorf("the last one: %v; not %v", more[len(more)-1], want)
	}
}

// P17.1, P17.5: a bag that is full: Copy and Flush; what finds no room is sent again, so that nothing is lost for good.
func TestFullBag(t *testing.T) {
	w := busy(t)
	first := w.Packets()[0].Id
	for len(w.Packets()) < 4000 {
		must(t, w.Copy(first))
	}
	all := w.Packets()
	fails(t, "the 4001st", w.Copy(first), api.ErrFull)
	fails(t, "none", w.Copy(-1), api.ErrNone)
	if n := w.Flush(); n != 0 || !slices.Equal(w.Packets(), all) || !w.Fits() {
		t.Errorf("Flush: %d; %d packets, Fits = %v", n, len(w.Packets()), w.Fits())
	}
	for _, p := range all[len(all)-3:] {
		must(t, w.Drop(p.Id))
	}
	if n := w.Flush(); n != 3 || len(w.Packets()) != 4000 {
		t.Errorf("Flush: %d, %d packets", n, len(w.Packets()))
	}
	w.Tick()
	if len(w.Packets()) != 4000 {
		t.Errorf("Tick: %d packets", len(w.Packets()))
	}
	if !w.Settle() || len(w.Packets()) != 0 || w.Flush() != 0 {
		t.Errorf("Settle: %d packets", len(w.Packets()))
	}
	for n := range 5 {
		want := 5
		if n == 4 {
			want = 3
		}
		if l, err := w.Poll(n, 9); err != nil || len(l) != want {
			t.Errorf("Poll(%d): %v, %v", n, l, err)
		}
	}
}

// P17.1: Settle of a world that has nothing to tell.
func TestSettleOfAnEmptyWorld(t *testing.T) {
	w := founded(t, shop(), 3, quarters)
	if !w.Settle() || w.Flush() != 0 || len(w.Packets()) != 0 {
		t.Error("of a new world")
	}
	// What is asked for and published is told by a tick alone.
	subscribed(t, w, 0, "price in 3..9")
	_, err := w.Publish(1, sale(5, ""))
	must(t, err)
	if !w.Settle() || len(children(t, w, w.Owner(group.Key("price.3.0")), "price.3.0")) != 0 {
		t.Error("without a tick")
	}
}

// lost: a world of whose places nearly all are nobody's, as far as its nodes know: 5, which owns them, isn't known, and who told it went. All base members publish all they may.
func lost(t *testing.T) *both {
	t.Helper()
	d := newDraw(1)
	at := api.Id(0)
	b := newBoth(t, d, numbers(255), 8, func() api.Id { at++; return at })
	b.join(4, 5, 3)
	b.join(5, math.MaxUint64, 4)
	b.crash(4)
	b.subscribe(1, "a in 3..9")
	for n := range 4 {
		for range 8 {
			b.publish(n, d.event(b.m.s))
		}
	}
	return b
}

// P17.1: Settle of a world that goes on: after 400 turns the answer is no; Calm answers what its last Settle said.
func TestSettleThatGoesOn(t *testing.T) {
	t.Parallel()
	b := lost(t)
	b.tick()
	if way, err := b.w.Way(0, 1<<63); way != 0 || api.Of(err) != api.ErrHops {
		t.Fatalf("Way: %d, %v", way, err)
	}
	b.settle()
	b.check()
	if b.m.counts["Settle false"] != 1 || len(b.w.Packets()) == 0 {
		t.Fatalf("Settle: %v, %d packets", b.m.counts, len(b.w.Packets()))
	}
	b = lost(t)
	if b.m.calm(1) || b.w.Calm(1) {
		t.Fatal("Calm(1): true")
	}
	b.check()
	if !b.m.calm(2) || !b.w.Calm(2) {
		t.Fatal("Calm(2): false")
	}
	b.check()
	b = lost(t)
	if !b.m.calm(3) || !b.w.Calm(3) {
		t.Fatal("Calm(3): false")
	}
	b.check()
}

// P17.1: Calm of fewer rounds than one, and of more than 1000; the packets' numbers tell how many there were.
func TestCalmRounds(t *testing.T) {
	t.Parallel()
	for _, rounds := range []int{math.MinInt, -1, 0, 1, 2, 999, 1000, 1001, math.MaxInt} {
		d := newDraw(1)
		at := api.Id(0)
		b := newBoth(t, d, shop(), 0, func() api.Id { at += 1 << 62; return at })
		b.subscribe(2, "price in 3..9")
		b.subscribe(3, "price in 3..9")
		b.tick()
		before := b.m.now
		b.calm(rounds)
		b.check()
		if got := b.m.now - before; got != max(0, min(rounds, 1000)) {
			t.Errorf("Calm(%d): %d ticks", rounds, got)
		}
		b.tick()
		b.check()
		if len(b.w.Packets()) == 0 {
			t.Error("nothing is told")
		}
	}
	w := founded(t, shop(), 3, quarters)
	if !w.Calm(0) || !w.Calm(-1) {
		t.Error("Calm of no round: false")
	}
}

// P17.5: as much as there may be of everything fits.
func TestFits(t *testing.T) {
	t.Parallel()
	s := numbers(255)
	// Nearly all keys are 0's own; 1 lies ahead of it, and is a finger of each other one, so that all tell 1.
	const last = 1 << 40
	w := founded(t, s, 8, []api.Id{last + 1, last, last - 1, last - 2})
	for n := 4; n < 32; n++ {
		must(t, w.Join(n, last-1<<n, 3))
	}
	d := newDraw(3)
	for n := range 32 {
		for i := range 16 {
			lo := d.Intn(100)
			subscribed(t, w, n, wish{{at: i % 4, lo: lo, hi: 255 - d.Intn(100)}}.text(s))
		}
		_, err := w.Subscribe(n, "a in 0..0")
		fails(t, "the 17th", err, api.ErrFull)
	}
	w.Calm(50)
	most := 0
	for _, n := range w.Live() {
		k := 0
		for _, l := range wishes(t, w, n, groupsOf(s, 8)) {
			k += len(l)
		}
		most = max(most, k)
		if !w.Fits() || k > 400 {
			t.Fatalf("%d: %d wishes, Fits = %v", n, k, w.Fits())
		}
	}
	if most != 400 {
		t.Errorf("just %d wishes", most)
	}
	full, busyAt := 0, 0
	for range 20 {
		for n := range 32 {
			for range 9 {
				_, err := w.Publish(n, value.Event{Values: []value.Value{{Num: 128}, {Num: 128}, {Num: 128}, {Num: 128}}})
				if api.Of(err) == api.ErrBusy {
					busyAt++
				}
			}
		}
		if !w.Fits() {
			t.Fatal("it doesn't fit")
		}
		w.Calm(2)
	}
	for n := range 32 {
		l, err := w.Poll(n, math.MaxInt)
		must(t, err)
		if len(l) == 64 {
			full++
		}
		if len(l) > 64 {
			t.Errorf("%d: %d waited", n, len(l))
		}
	}
	if full == 0 || busyAt == 0 {
		t.Errorf("%d full, %d times busy", full, busyAt)
	}
}
