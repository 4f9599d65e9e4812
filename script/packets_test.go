package script_test

import (
	"fmt"
	"math"
	"slices"
	"testing"

	"wigwag/api"
	"wigwag/group"
	"wigwag/node"
	"wigwag/script"
	"wigwag/value"
)

// P19.1: Deliver, Drop and Copy where no packet is on its way: ahead of all, and behind a Calm.
func TestNoPacket(t *testing.T) {
	show := founded(t, shop(), 3, tens)
	for i := range 2 {
		for _, kind := range []int{script.Deliver, script.Drop, script.Copy} {
			for _, n := range []int{0, 1, -1, 5, math.MinInt, math.MaxInt} {
				refused(t, show, of(kind, 1, n), api.ErrNone)
			}
		}
		does(t, show, subscribe(1, "price in 3..9"), number(i+1))
		does(t, show, calm, number(1))
	}
}

// eight: a show with eight packets on their way from 3 to 0, the root, each with the event of another price; 0 asks for all of them.
func eight(t *testing.T) *script.Show {
	t.Helper()
	show := founded(t, value.Schema{{Name: "price", Kind: value.Int, Max: 99}}, 0, []api.Id{group.Key("price.0.0"), 1, 2, 3})
	does(t, show, subscribe(0, "price in 0..99"), number(1))
	does(t, show, calm, number(1))
	for i := range 8 {
		does(t, show, publish(3, value.Event{Values: []value.Value{{Num: i}}}), number(i+1))
	}
	done(t, show, tick)
	return show
}

// unfolded: what comes, behind a step, of some first packets and the last one, for any number of first ones, as a text.
func unfolded(t *testing.T, x script.Step, left int) string {
	t.Helper()
	var all []node.Delivery
	for first := range left {
		show := eight(t)
		done(t, show, x)
		for i := range left {
			kind := script.Deliver
			if first <= i && i < left-1 {
				kind = script.Drop
			}
			done(t, show, of(kind, 0, 0))
		}
		refused(t, show, of(script.Drop, 0, 0), api.ErrNone)
		r, err := show.Do(of(script.Poll, 0, 64))
		if err != nil {
			t.Fatal(err)
		}
		all = append(append(all, r.Got...), node.Delivery{})
	}
	return fmt.Sprint(all)
}

// P19.1: which packet a number means: they are counted round and round, below 0 from the end on.
func TestWhichPacket(t *testing.T) {
	for kind, left := range map[int]int{script.Deliver: 7, script.Drop: 7, script.Copy: 9} {
		var want []string
		for i := range 8 {
			text := unfolded(t, of(kind, 0, i), left)
			if slices.Contains(want, text) {
				t.Fatalf("kind %d: the packet %d isn't told from others", kind, i)
			}
			want = append(want, text)
		}
		for _, c := range []struct{ n, at int }{
			{8, 0}, {9, 1}, {8_000_005, 5}, {math.MaxInt, 7},
			{-1, 7}, {-2, 6}, {-8, 0}, {-9, 7}, {-8_000_003, 5}, {math.MinInt, 0}, {math.MinInt + 1, 1},
		} {
			if unfolded(t, of(kind, 0, c.n), left) != want[c.at] {
				t.Errorf("kind %d: %d isn't %d", kind, c.n, c.at)
			}
		}
	}
}

// P19.1: a packet of one who is gone: it is ErrDead, and out of the bag all the same; those to it are out already.
func TestPacketOfOneWhoIsGone(t *testing.T) {
	for _, kind := range []int{script.Leave, script.Crash} {
		show := founded(t, value.Schema{{Name: "price", Kind: value.Int, Max: 99}}, 0, []api.Id{group.Key("price.0.0"), 1, 2, 3})
		done(t, show, join(4, 4, 3))
		does(t, show, calm, number(1))
		does(t, show, subscribe(4, "price in 0..99"), number(1))
		done(t, show, tick, of(script.Copy, 0, 0), of(kind, 4, 0))
		refused(t, show, of(script.Deliver, 0, 0), api.ErrDead)
		refused(t, show, of(script.Deliver, 0, 5), api.ErrDead)
		refused(t, show, of(script.Deliver, 0, 0), api.ErrNone)
	}
}

// P19.1: a bag that is full: Copy; with all its packets it settles.
func TestFullBag(t *testing.T) {
	show := eight(t)
	for i := range 4000 - 8 {
		done(t, show, of(script.Copy, 0, i))
	}
	for _, n := range []int{0, -1, 3999} {
		refused(t, show, of(script.Copy, 0, n), api.ErrFull)
	}
	done(t, show, of(script.Drop, 0, 4000), of(script.Copy, 0, 3999))
	refused(t, show, of(script.Copy, 0, 0), api.ErrFull)
	does(t, show, settle, number(1))
	refused(t, show, of(script.Copy, 0, 0), api.ErrNone)
}

// P19.1: Settle of a show that goes on: nearly all places are nobody's, as far as its nodes know: 5, which owns them, isn't known, and who told it went; so what is published goes round and round.
func TestSettleThatGoesOn(t *testing.T) {
	show := founded(t, numbers(255), 8, []api.Id{1, 2, 3, 4})
	done(t, show, join(4, 5, 3), join(5, math.MaxUint64, 4), of(script.Crash, 4, 0))
	for n := range 4 {
		for i := range 8 {
			does(t, show, publish(n, value.Event{Values: []value.Value{{Num: 10 * n}, {Num: 20 * i}, {Num: 30}, {Num: 250}}}), number(i+1))
		}
	}
	done(t, show, tick)
	does(t, show, settle, number(0))
	// Some packets are still on their way.
	done(t, show, of(script.Drop, 0, 0))
	does(t, show, settle, number(0))
	// In the calm all know whose the places are.
	does(t, show, calm, number(1))
	for n := range 4 {
		isOpen(t, show, n)
	}
}
