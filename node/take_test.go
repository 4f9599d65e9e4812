package node_test

import (
	"errors"
	"fmt"
	"math"
	"strings"
	"testing"

	"wigwag/api"
	"wigwag/group"
	"wigwag/link"
	"wigwag/msg"
	"wigwag/node"
	"wigwag/table"
	"wigwag/value"
)

func keyOf(g string) api.Id { return group.Key(g) }

func route(g string, pub, seq, hops int, e value.Event) msg.Msg {
	return msg.Msg{Kind: msg.Route, Group: g, Pub: pub, Seq: seq, Hops: hops, Event: e}
}

func down(g string, pub, seq int, e value.Event) msg.Msg {
	return msg.Msg{Kind: msg.Down, Group: g, Pub: pub, Seq: seq, Event: e}
}

func confirm(g string, pub, seq int) msg.Msg {
	return msg.Msg{Kind: msg.Confirm, Group: g, Pub: pub, Seq: seq}
}

// packet: the first packet of a link on which a text waits.
func packet(t *testing.T, s string) string {
	t.Helper()
	var l link.Link
	if err := l.Push(s); err != nil {
		t.Fatal(err)
	}
	return l.Packets()[0]
}

func mustBytes(t *testing.T, m msg.Msg) string {
	t.Helper()
	s, err := msg.Bytes(m)
	if err != nil {
		t.Fatalf("%v: %v", m, err)
	}
	return s
}

// P16.2: packets of the node itself, of who doesn't live, of bytes that are none: nothing changes.
func TestTakeRefuses(t *testing.T) {
	b := start(t, 3, 1, always(3))
	b.subscribe(filters[1])
	b.e.dead[2] = true
	good := packet(t, mustBytes(t, graft("x", "a")))
	for _, from := range []int{3, 2, -1, 32, math.MinInt, math.MaxInt} {
		for _, p := range []string{good, "", "\x00"} {
			if err := b.n.Take(from, p, b.e); !errors.Is(err, api.ErrDead) || api.Of(err) != api.ErrDead {
				t.Errorf("Take(%d, %x): %v", from, p, err)
			}
			b.check()
		}
	}
	for p, want := range map[string]api.Code{
		"": api.ErrEnd, "\x00": api.ErrEnd, "\x00\x00\x02a": api.ErrEnd, "\x80\x00": api.ErrForm,
		good + "x": api.ErrForm, "\x03\x00\x00": api.ErrForm, "\x00\x01\x00": api.ErrForm, "\x01\x00\x01a": api.ErrForm,
		"\x00\x00\xd1\x0f" + strings.Repeat("x", 2001): api.ErrArg,
	} {
		if err := b.n.Take(1, p, b.e); !errors.Is(err, want) || api.Of(err) != want {
			t.Errorf("Take(1, %.20x): %v, not %v", p, err, want)
		}
		b.check()
		if l := b.n.Packets(); len(l) != 0 {
			t.Errorf("Take(1, %.20x): %s is sent", p, toldOut(l))
		}
	}
	b.take(1, good)
	b.check()
	if b.n.Entries() != 1 || b.n.Lost() != 0 {
		t.Errorf("Entries = %d, Lost = %d", b.n.Entries(), b.n.Lost())
	}
}

// P16.2: a text that is no message: the error of msg.Read, and of all that the node has nothing changes; the link has it, so that what comes behind it is heard.
func TestTakeOfWhatIsNoMessage(t *testing.T) {
	b := start(t, 3, 1, always(3))
	long := with(down("x", 1, 1, value.Event{}), strings.Repeat("x", 1950))
	for i, c := range []struct {
		s    string
		want api.Code
	}{
		{"", api.ErrEnd}, {"\x04", api.ErrEnd}, {"\x04\x01gg", api.ErrForm}, {"\x0c\x01g", api.ErrForm}, {"\x02\x01g\x03", api.ErrForm},
		{"\x04\x00", api.ErrArg}, {"\x0a\x01g\x40\x02", api.ErrArg}, {"\x06\x01g\x00\x02\x00\x0a", api.ErrArg}, {"\x08\x01g\x00\x02\x02\x00\x00", api.ErrForm},
		{mustBytes(t, long) + "x", api.ErrForm},
	} {
		if err := b.peer(1).Push(c.s); err != nil {
			t.Fatal(err)
		}
		for _, p := range b.peer(1).Packets() {
			if got := b.w.take(1, p, b.e); got != c.want {
				t.Errorf("text %d: the twin says %v", i, got)
			}
			if err := b.n.Take(1, p, b.e); !errors.Is(err, c.want) || api.Of(err) != c.want {
				t.Errorf("text %d: %v, not %v", i, err, c.want)
			}
			// The same packet again: no text comes.
			b.take(1, p)
		}
		b.check()
		b.packets(func() bool { return true })
	}
	b.tell(1, graft("x", "a"))
	b.check()
	if b.n.Entries() != 1 || b.n.Lost() != 0 {
		t.Errorf("Entries = %d, Lost = %d", b.n.Entries(), b.n.Lost())
	}
}

func with(m msg.Msg, payload string) msg.Msg {
	m.Event.Payload = payload
	return m
}

// P16.2: packets doubled, late and out of order: each message is handled once, in order.
func TestTakeOnceInOrder(t *testing.T) {
	b := start(t, 0, 1, always(0))
	b.say(1, graft("x", "a"))
	b.say(1, graft("x", "b"))
	b.say(1, msg.Msg{Kind: msg.Prune, Group: "x"})
	b.say(1, graft("y", "c"))
	p := b.peer(1).Packets()
	for _, c := range []struct {
		i    int
		x, y string
	}{
		{1, "", ""}, {3, "", ""}, {0, `("x" 1 ["a"] false 4)`, ""}, {0, `("x" 1 ["a"] false 4)`, ""}, {1, `("x" 1 ["b"] false 4)`, ""}, {0, `("x" 1 ["b"] false 4)`, ""},
		{2, "", ""}, {1, "", ""}, {3, "", `("y" 1 ["c"] false 4)`}, {2, "", `("y" 1 ["c"] false 4)`},
	} {
		b.take(1, p[c.i])
		b.check()
		if x, y := told(b.n.Children("x")), told(b.n.Children("y")); x != c.x || y != c.y {
			t.Errorf("behind packet %d: %s, %s", c.i, x, y)
		}
	}
}

// P16.3: Prune: that child's wish of that group goes; of one that isn't there nothing.
func TestPrune(t *testing.T) {
	b := start(t, 0, 1, always(0))
	for _, child := range []int{1, 2} {
		b.tell(child, graft("x", "a"))
		b.tell(child, graftAny("y"))
	}
	b.tell(1, msg.Msg{Kind: msg.Prune, Group: "x"})
	b.tell(1, msg.Msg{Kind: msg.Prune, Group: "x"})
	b.tell(3, msg.Msg{Kind: msg.Prune, Group: "y"})
	b.check()
	if got := told(append(b.n.Children("x"), b.n.Children("y")...)); got != `("x" 2 ["a"] false 4)("y" 1 [] true 4)("y" 2 [] true 4)` {
		t.Errorf("Children = %s", got)
	}
}

// P16.3: Route at the root: Confirm to Pub, and down it goes; also at 65 hops.
func TestRouteAtTheRoot(t *testing.T) {
	for _, hops := range []int{0, 1, 64, 65} {
		b := start(t, 0, 1, always(0))
		b.subscribe(filters[0])
		b.tell(2, graft("x", "price in 3..9"))
		b.tell(1, graft("x", "price in 0..99"))
		b.sent()
		b.say(3, route("x", 1, 7, hops, sale(5, "a")))
		b.hear(3)
		b.expectSent("1: Confirm x 1/7", "1: Down x 1/7 {[{5 } {0 a}] 5a}", "2: Down x 1/7 {[{5 } {0 a}] 5a}")
		if got := toldDeliveries(b.poll(9)); got != `(1 1 7 "[{5 } {0 a}]" "5a")` || b.n.Lost() != 0 {
			t.Errorf("polled %s; Lost = %d", got, b.n.Lost())
		}
		// Again by the same group: it is confirmed again, and doesn't go down.
		b.tell(3, route("x", 1, 7, hops, sale(5, "a")))
		b.tell(2, down("x", 1, 7, sale(5, "a")))
		b.expectSent("1: Confirm x 1/7")
		// By another group: it goes down there, but doesn't come again.
		b.tell(2, graftAny("y"))
		b.tell(3, route("y", 1, 7, hops, sale(5, "a")))
		b.expectSent("1: Confirm y 1/7", "2: Down y 1/7 {[{5 } {0 a}] 5a}")
		if b.n.Waits() != 0 || b.n.Lost() != 0 {
			t.Errorf("Waits = %d, Lost = %d", b.n.Waits(), b.n.Lost())
		}
	}
}

// P16.3: Route on its way: to the next one, a hop more, up to 65; without a next one it is lost.
func TestRouteOnItsWay(t *testing.T) {
	for i, c := range []struct {
		h    hop
		hops int
		sent []string
		lost int
	}{
		{hop{to: 5}, 0, []string{"5: Route x 1/7 hops 1 {[{5 } {0 a}] 5a}"}, 0},
		{hop{to: 3}, 3, []string{"3: Route x 1/7 hops 4 {[{5 } {0 a}] 5a}"}, 0},
		{hop{to: 1}, 63, []string{"1: Route x 1/7 hops 64 {[{5 } {0 a}] 5a}"}, 0},
		{hop{to: 5}, 64, []string{"5: Route x 1/7 hops 65 {[{5 } {0 a}] 5a}"}, 0},
		{hop{to: 5}, 65, nil, 1},
		{hop{to: -1}, 0, nil, 1},
		{hop{to: 5, err: api.ErrDead}, 0, nil, 1},
		{hop{to: 0, err: api.ErrHops}, 64, nil, 1},
		{hop{to: -1}, 65, nil, 1},
		{hop{to: 6}, 0, nil, 0},
		{hop{to: 6}, 65, nil, 1},
	} {
		b := start(t, 0, 1, always(0))
		b.what = fmt.Sprint("route ", i)
		b.e.dead[6] = true
		b.e.at[keyOf("x")] = c.h
		b.subscribe(filters[1])
		b.tell(2, graftAny("x"))
		b.tell(3, route("x", 1, 7, c.hops, sale(5, "a")))
		b.expectSent(c.sent...)
		if b.n.Lost() != c.lost || b.n.Waits() != 0 {
			t.Errorf("%s: Lost = %d, Waits = %d", b.what, b.n.Lost(), b.n.Waits())
		}
		// It isn't remembered as one that went down: at the root it does.
		b.e.set("x", 0, nil)
		b.tell(3, route("x", 1, 7, 0, sale(5, "a")))
		b.check()
		if b.n.Waits() != 1 {
			t.Errorf("%s: Waits = %d", b.what, b.n.Waits())
		}
	}
}

// P16.3: an event that isn't one of the schema is confirmed, and sent on, but doesn't go down, nor come.
func TestEventOfAnotherSchema(t *testing.T) {
	b := start(t, 0, 1, always(0))
	b.subscribe(filters[1])
	b.tell(2, graftAny("x"))
	wrong := []value.Event{{}, sale(100, ""), {Values: sale(5, "a").Values[:1]}, {Values: append(sale(5, "a").Values, value.Value{})}, {Values: sale(5, "a").Values, Payload: strings.Repeat("p", 201)}, {Values: []value.Value{{Num: 5, Str: "x"}, {}}}}
	for _, e := range wrong {
		b.tell(3, route("x", 4, 1, 0, e))
		b.expectSent("4: Confirm x 4/1")
		b.tell(3, down("x", 4, 1, e))
		b.expectSent()
	}
	b.e.set("x", 5, nil)
	b.tell(3, route("x", 4, 1, 0, wrong[0]))
	b.expectSent("5: Route x 4/1 hops 1 {[] }")
	if b.n.Waits() != 0 || b.n.Lost() != 0 {
		t.Errorf("Waits = %d, Lost = %d", b.n.Waits(), b.n.Lost())
	}
	// Nothing of it was remembered.
	b.tell(3, down("x", 4, 1, sale(5, "a")))
	b.expectSent("2: Down x 4/1 {[{5 } {0 a}] 5a}")
	if b.n.Waits() != 1 {
		t.Errorf("Waits = %d", b.n.Waits())
	}
}

// P16.3: Confirm to oneself is handled at once; to one who doesn't live it is nothing.
func TestWhoIsConfirmed(t *testing.T) {
	b := start(t, 0, 0, always(1))
	b.publish(sale(5, "a"))
	b.e.other.to = 0
	b.tell(3, route("price.0.0", 0, 1, 5, sale(5, "a")))
	b.expectSent()
	if fmt.Sprint(b.n.Open()) != "[1]" {
		t.Errorf("Open = %v", b.n.Open())
	}
	b.tell(3, route("tag.0.0", 0, 1, 5, sale(5, "a")))
	b.expectSent()
	if len(b.n.Open()) != 0 {
		t.Errorf("Open = %v", b.n.Open())
	}
	b.e.dead[6] = true
	b.tell(3, route("x", 6, 1, 0, sale(5, "a")))
	b.expectSent()
	if b.n.Lost() != 0 {
		t.Errorf("Lost = %d", b.n.Lost())
	}
}

// P16.4: an event is confirmed when all its groups have; by another group, publisher or number nothing is.
func TestConfirm(t *testing.T) {
	b := start(t, 2, 1, always(1))
	b.publish(sale(5, "a"))
	b.publish(sale(60, "zz"))
	for i, c := range []struct {
		m    msg.Msg
		open string
	}{
		{confirm("price.0.0", 2, 2), "[1 2]"}, {confirm("price.1.1", 2, 2), "[1 2]"}, {confirm("tag.0.0", 2, 2), "[1 2]"},
		{confirm("tag.0.0", 2, 2), "[1 2]"}, {confirm("tag.1.1", 2, 2), "[1 2]"}, {confirm("x", 2, 2), "[1 2]"},
		{confirm("tag.1.0", 1, 2), "[1 2]"}, {confirm("tag.1.0", 2, 3), "[1 2]"}, {confirm("tag.1.0", 2, 1), "[1 2]"},
		{confirm("tag.1.0", 2, 2), "[1]"}, {confirm("tag.1.0", 2, 2), "[1]"},
		{confirm("price.0.0", 2, 1), "[1]"}, {confirm("price.1.0", 2, 1), "[1]"}, {confirm("tag.0.0", 2, 1), "[]"}, {confirm("tag.0.0", 2, 1), "[]"},
	} {
		b.tell(1+2*(i%2), c.m)
		b.check()
		if got := fmt.Sprint(b.n.Open()); got != c.open {
			t.Errorf("confirm %d: Open = %s, not %s", i, got, c.open)
		}
	}
	b.tick(1)
	b.expectSent()
	b.publish(sale(5, "a"))
	if got := fmt.Sprint(b.n.Open()); got != "[3]" {
		t.Errorf("Open = %s", got)
	}
}

// P16.3: to each child, by rising addresses, whose wish is Any, or has a filter that takes it; also back to who told it.
func TestDownToChildren(t *testing.T) {
	b := start(t, 0, 1, always(0))
	b.tell(9, graft("x", "price in 99..99", `tag ^= "a"`))
	b.tell(10, graft("x", "price in 99..99"))
	b.tell(2, graftAny("x"))
	b.tell(5, graft("x"))
	b.tell(6, graft("x", noFilters[:6]...))
	b.tell(7, graft("x", noFilters[6], noFilters[7], "price in 3..9"))
	b.tell(8, graftAny("y"))
	b.tell(11, graft("x", `tag = "a" and price in 5..5`))
	b.e.dead[13] = true
	b.get([]table.Entry{{Group: "x", Child: 12, Filters: []string{" price  in 5 .. 5 "}, Till: 9}, {Group: "x", Child: 13, Any: true, Till: 9}})
	got := b.n
	b.sent()
	// Those of the last two aren't printed, and so beyond what the twin knows: they are asked of the node alone.
	if err := got.Take(3, packet(t, mustBytes(t, down("x", 4, 1, sale(5, "a")))), b.e); err != nil {
		t.Fatal(err)
	}
	var to []int
	for _, o := range got.Packets() {
		if strings.Contains(o.Text, "\x08\x01x") {
			to = append(to, o.To)
		}
	}
	if fmt.Sprint(to) != "[2 7 9 11 12]" || got.Lost() != 0 {
		t.Errorf("down to %v, Lost = %d", to, got.Lost())
	}
}

// P16.2: what is 64 or more numbers below the greatest one of its publisher is lost here, but goes on down.
func TestStale(t *testing.T) {
	b := start(t, 0, 1, always(0))
	b.subscribe(filters[1])
	b.tell(2, graftAny("x"))
	b.tell(3, down("x", 4, 100, sale(5, "a")))
	b.expectSent("2: Down x 4/100 {[{5 } {0 a}] 5a}")
	for i, c := range []struct{ seq, waits, lost int }{{37, 2, 0}, {36, 2, 1}, {36, 2, 1}, {1, 2, 2}, {38, 3, 2}, {37, 3, 2}} {
		b.tell(3, down("x", 4, c.seq, sale(5, "a")))
		b.check()
		if b.n.Waits() != c.waits || b.n.Lost() != c.lost {
			t.Errorf("%d: Waits = %d, Lost = %d", i, b.n.Waits(), b.n.Lost())
		}
	}
	b.expectSent("2: Down x 4/37 {[{5 } {0 a}] 5a}", "2: Down x 4/36 {[{5 } {0 a}] 5a}", "2: Down x 4/1 {[{5 } {0 a}] 5a}", "2: Down x 4/38 {[{5 } {0 a}] 5a}")
	// By another group it is dropped once more.
	b.tell(3, down("y", 4, 36, sale(5, "a")))
	b.tell(3, down("x", 5, 1, sale(5, "a")))
	b.tell(3, down("x", 4, 1<<30, sale(5, "a")))
	b.check()
	if b.n.Waits() != 5 || b.n.Lost() != 3 {
		t.Errorf("Waits = %d, Lost = %d", b.n.Waits(), b.n.Lost())
	}
}

// P16.2: of the last 512 that went down, each with its group, none does again; the one that was ahead of them does, but comes to no subscription again.
func TestSpread(t *testing.T) {
	for _, groups := range []int{1, 3} {
		b := start(t, 0, 1, always(0))
		b.subscribe(filters[1])
		for g := range groups {
			b.tell(2, graftAny(fmt.Sprint("x", g)))
		}
		b.sent()
		send := func(i int) {
			t.Helper()
			b.tell(3, down(fmt.Sprint("x", i%groups), i/groups%32, 1+i/groups/32, sale(5, "a")))
		}
		expect := func(what string, i, n int) {
			t.Helper()
			send(i)
			if l := b.sent(); len(l) != n {
				t.Errorf("%d groups, %s: sent %v", groups, what, l)
			}
			b.poll(99)
			b.check()
		}
		for i := range 512 {
			expect("the first ones", i, 1)
		}
		for i := range 512 {
			expect("again", i, 0)
		}
		expect("the 513th", 512, 1)
		for i := 1; i <= 512; i++ {
			expect("again", i, 0)
		}
		waits := b.n.Waits()
		expect("the first one", 0, 1)
		expect("the third one", 2, 0)
		expect("the second one", 1, 1)
		if b.n.Waits() != waits || b.n.Lost() != 0 {
			t.Errorf("%d groups: Waits = %d, Lost = %d", groups, b.n.Waits(), b.n.Lost())
		}
	}
}

// P16.2: what comes in a message shares no memory with what is answered, nor do the deliveries of one event.
func TestDeliveriesAreApart(t *testing.T) {
	n, err := node.New(0, shop(), 1)
	if err != nil {
		t.Fatal(err)
	}
	for range 3 {
		if _, err := n.Subscribe("price in 0..99"); err != nil {
			t.Fatal(err)
		}
	}
	e := sale(5, "a")
	if _, err := n.Publish(e); err != nil {
		t.Fatal(err)
	}
	spoilEvent(e)
	n.Tick(1, always(0))
	first := n.Poll(1)
	spoilEvent(first[0].Event)
	rest := n.Poll(2)
	spoilEvent(rest[0].Event)
	if got := toldDeliveries(rest[1:]); got != `(3 0 1 "[{5 } {0 a}]" "5a")` {
		t.Errorf("the last one is %s", got)
	}
}
