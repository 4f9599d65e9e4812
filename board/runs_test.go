package board_test

import (
	"fmt"
	"slices"
	"testing"

	"wigwag/api"
	"wigwag/board"
	"wigwag/node"
	"wigwag/value"
)

// atLeast: each of these was met so often.
func atLeast(t *testing.T, met map[string]int, most int, names ...string) {
	t.Helper()
	for _, x := range names {
		if met[x] < most {
			t.Errorf("%s: met %d times", x, met[x])
		}
	}
}

// P18.1: each call, behind any calls, held against plain lists; of what is refused nothing is to be seen.
func TestAnyCalls(t *testing.T) {
	met := map[string]int{}
	for seed := range 3000 {
		x := newBoth(t, newDraw(seed), met)
		for range x.d.Intn(160) {
			x.step()
			// Not behind each step: what looks on may hide what comes of two calls.
			if x.d.Intn(4) == 0 {
				x.look()
			}
		}
		x.look()
	}
	atLeast(t, met, 400,
		"publish ok", "publish schema", "publish busy",
		"subscribe ok", "subscribe arg", "subscribe parse", "subscribe schema", "subscribe busy", "made again",
		"unsubscribe ok", "unsubscribe none", "gone 0", "gone 1", "gone 2",
		"give ok", "give none", "give form", "give stale", "give schema", "give busy",
		"due ok", "due none", "due 0", "due 1", "due 2", "due 3")
}

// giveAll: what is given to all that are due; how many they are.
func giveAll(t *testing.T, b *board.Board, ev told, count map[got]int) int {
	t.Helper()
	due, err := b.Due(ev.pub, ev.seq)
	if err != nil {
		t.Fatal(err)
	}
	for _, w := range due {
		d := node.Delivery{Sub: w.Sub, Pub: ev.pub, Seq: ev.seq, Event: copied(ev.e)}
		if err := b.Give(w.Node, d); err != nil {
			t.Fatalf("Give(%d, %v), which is due: %v", w.Node, d, err)
		}
		count[got{w, ev.pub, ev.seq}]++
		if err := b.Give(w.Node, d); api.Of(err) != api.ErrBusy {
			t.Fatalf("Give(%d, %v) again: %v", w.Node, d, err)
		}
	}
	return len(due)
}

// P18.2: nothing is given twice, whatever goes and is made again; what is given to all that are due leaves nobody due.
func TestOnce(t *testing.T) {
	met := map[string]int{}
	for seed := range 2000 {
		x := newBoth(t, newDraw(seed), met)
		count := map[got]int{}
		for range 40 {
			switch x.d.Intn(4) {
			case 0:
				x.publish()
			case 1:
				x.subscribe()
			case 2:
				if x.d.Intn(2) == 0 {
					x.gone()
				}
				x.unsubscribe()
			}
			for _, ev := range x.l.events {
				met[fmt.Sprint("given to ", min(3, giveAll(t, x.b, ev, count)))]++
				if due, err := x.b.Due(ev.pub, ev.seq); err != nil || len(due) != 0 {
					t.Fatalf("%v was given to all: due are %v, %v", ev, due, err)
				}
			}
		}
		for g, n := range count {
			if n != 1 {
				t.Fatalf("%v was given %d times", g, n)
			}
		}
		met["given"] += len(count)
	}
	atLeast(t, met, 100, "given to 0", "given to 1", "given to 2", "given to 3", "given")
}

// P18.1: many subscriptions, of which the order is told by nodes, then by numbers; no order of a map shows.
func TestDueOfMany(t *testing.T) {
	d := newDraw(1)
	b := newBoard(t)
	mustPublish(t, b, 0, 0, sale(5, "a"))
	all := named(d.ints(20), d.ints(20))
	d.Shuffle(len(all), func(i, j int) { all[i], all[j] = all[j], all[i] })
	var want []board.Who
	for i, w := range all {
		text := "price in 6..9"
		if i%4 > 0 {
			text = "price in 0..5"
			want = append(want, w)
		}
		mustSubscribe(t, b, w, text)
	}
	slices.SortFunc(want, func(a, b board.Who) int {
		switch {
		case a == b:
			return 0
		case a.Node < b.Node || a.Node == b.Node && a.Sub < b.Sub:
			return -1
		}
		return 1
	})
	for range 20 {
		expectDue(t, b, 0, 0, want...)
	}
	n := want[7].Node
	left := slices.DeleteFunc(slices.Clone(all), func(w board.Who) bool { return w.Node == n })
	if g := b.Gone(n); g != len(all)-len(left) {
		t.Errorf("Gone: %d of %d", g, len(all)-len(left))
	}
	expectDue(t, b, 0, 0, slices.DeleteFunc(slices.Clone(want), func(w board.Who) bool { return w.Node == n })...)
}

// P18.1: Same, of any events, held against a plain look.
func TestSameOfAny(t *testing.T) {
	d := newDraw(2)
	met := map[bool]int{}
	for range 20000 {
		s := d.schema()[:1]
		a, b := d.event(s), d.event(s)
		switch d.Intn(6) {
		case 0:
			b = d.other(a)
		case 1:
			a = d.wrongEvent(s)
			b = copied(a)
		case 2:
			b = value.Event{Payload: a.Payload}
		}
		want := same(a, b)
		before := fmt.Sprint(a, b)
		if board.Same(a, b) != want || board.Same(b, a) != want || !board.Same(a, a) || !board.Same(b, copied(b)) {
			t.Fatalf("Same(%v, %v) isn't %v", a, b, want)
		}
		if fmt.Sprint(a, b) != before {
			t.Fatalf("Same changed %s into %v, %v", before, a, b)
		}
		met[want]++
	}
	if met[true] < 1000 || met[false] < 1000 {
		t.Errorf("met: %v", met)
	}
}
