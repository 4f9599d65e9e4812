package node_test

import (
	"errors"
	"fmt"
	"math"
	"slices"
	"strings"
	"testing"

	"wigwag/api"
	"wigwag/link"
	"wigwag/msg"
	"wigwag/node"
	"wigwag/table"
	"wigwag/value"
)

func graft(g string, filters ...string) msg.Msg {
	return msg.Msg{Kind: msg.Graft, Group: g, Filters: filters}
}

func graftAny(g string) msg.Msg { return msg.Msg{Kind: msg.Graft, Group: g, Any: true} }

// wishes: so many of them, of groups of their own.
func wishes(n, child, till int) []table.Entry {
	var l []table.Entry
	for i := range n {
		l = append(l, table.Entry{Group: fmt.Sprintf("g%03d", i), Child: child, Any: true, Till: till})
	}
	return l
}

// P16.3: the wishes, by rising names, and then the events, the eldest first, each to the next one on its way.
func TestTickTells(t *testing.T) {
	b := start(t, 5, 1, always(4))
	b.subscribe(filters[0]) // price.1.0
	b.subscribe(filters[4]) // tag.1.0: what begins with b lies in one cell, as 50 to 60 does, and stands ahead of it
	b.publish(sale(5, "a"))
	b.publish(sale(60, "zz"))
	b.tell(1, graft("tag.0.0", `tag = "a"`))
	b.tell(2, graft("price.1.0", "price in 5..80", "price in 3..9"))
	b.tell(1, graft("price.1.0", "price in 99..99"))
	b.e.set("price.1.0", 3, nil)
	b.tick(1)
	b.expectSent(
		`3: Graft price.1.0 ["price in 3..9" "price in 5..80" "price in 99..99"]`,
		`3: Route price.1.0 5/1 hops 0 {[{5 } {0 a}] 5a}`,
		`4: Graft tag.0.0 ["tag = \"a\""]`,
		`4: Graft tag.1.0 ["tag ^= \"b\" and price in 50..60"]`,
		`4: Route price.0.0 5/1 hops 0 {[{5 } {0 a}] 5a}`,
		`4: Route tag.0.0 5/1 hops 0 {[{5 } {0 a}] 5a}`,
		`4: Route tag.1.0 5/1 hops 0 {[{5 } {0 a}] 5a}`,
		`4: Route price.0.0 5/2 hops 0 {[{60 } {0 zz}] 60zz}`,
		`4: Route price.1.1 5/2 hops 0 {[{60 } {0 zz}] 60zz}`,
		`4: Route tag.0.0 5/2 hops 0 {[{60 } {0 zz}] 60zz}`,
		`4: Route tag.1.0 5/2 hops 0 {[{60 } {0 zz}] 60zz}`,
	)
	if len(b.e.asked) != 1 || b.e.asked[5] == 0 {
		t.Errorf("Next was asked of %v", b.e.asked)
	}
	// What is confirmed isn't sent again.
	for _, g := range []string{"price.0.0", "price.1.0", "tag.1.0"} {
		b.tell(4, msg.Msg{Kind: msg.Confirm, Group: g, Pub: 5, Seq: 1})
	}
	b.unsubscribe(2)
	b.sent()
	b.tick(2)
	b.expectSent(
		`3: Graft price.1.0 ["price in 3..9" "price in 5..80" "price in 99..99"]`,
		`4: Graft tag.0.0 ["tag = \"a\""]`,
		`4: Route tag.0.0 5/1 hops 0 {[{5 } {0 a}] 5a}`,
		`4: Route price.0.0 5/2 hops 0 {[{60 } {0 zz}] 60zz}`,
		`4: Route price.1.1 5/2 hops 0 {[{60 } {0 zz}] 60zz}`,
		`4: Route tag.0.0 5/2 hops 0 {[{60 } {0 zz}] 60zz}`,
		`4: Route tag.1.0 5/2 hops 0 {[{60 } {0 zz}] 60zz}`,
	)
	if b.n.Lost() != 0 {
		t.Errorf("Lost = %d", b.n.Lost())
	}
}

// P16.3: names rise byte by byte; a group of several is told of once.
func TestTickTellsByRisingNames(t *testing.T) {
	b := start(t, 0, 0, always(1))
	b.subscribe(filters[1])
	b.subscribe(filters[2])
	var l []table.Entry
	for _, g := range []string{"tag.0.0", "b", "a.9", "a.10", "B", "\xff", "a", "price.0.0", "\x00", "z"} {
		for _, child := range []int{7, 2} {
			l = append(l, table.Entry{Group: g, Child: child, Filters: []string{fmt.Sprint(child), "x"}, Till: 9})
		}
	}
	b.get(l)
	b.tick(1)
	var want []string
	for _, g := range []string{"\x00", "B", "a", "a.10", "a.9", "b", "price.0.0", "tag.0.0", "z", "\xff"} {
		more := map[string]string{"price.0.0": ` "price in 0..99"`, "tag.0.0": ` "tag = \"a\""`}[g]
		want = append(want, fmt.Sprintf(`1: Graft %s ["2" "7"%s "x"]`, g, more))
	}
	b.expectSent(want...)
}

// P16.3: what table.Join says; Any where the message would have more than 1970 bytes.
func TestWishes(t *testing.T) {
	long := func(n int) string { return strings.Repeat("f", n) }
	for i, c := range []struct {
		l    []table.Entry
		want string
	}{
		{[]table.Entry{{Group: "g", Child: 1, Till: 9}}, "1: Graft g []"},
		{[]table.Entry{{Group: "g", Child: 1, Any: true, Till: 9}, {Group: "g", Child: 2, Filters: []string{"a"}, Till: 9}}, "1: Graft g any"},
		{[]table.Entry{{Group: "g", Child: 1, Filters: []string{"b", "a"}, Till: 9}, {Group: "g", Child: 2, Filters: []string{"a", "c"}, Till: 9}}, `1: Graft g ["a" "b" "c"]`},
		{[]table.Entry{{Group: "g", Child: 1, Filters: strings.Fields("a b c d e f g h i j k l m n o p"), Till: 9}, {Group: "g", Child: 2, Filters: []string{"p"}, Till: 9}}, `1: Graft g ["a" "b" "c" "d" "e" "f" "g" "h" "i" "j" "k" "l" "m" "n" "o" "p"]`},
		{[]table.Entry{{Group: "g", Child: 1, Filters: strings.Fields("a b c d e f g h i j k l m n o p"), Till: 9}, {Group: "g", Child: 2, Filters: []string{"q"}, Till: 9}}, "1: Graft g any"},
		// One byte for the kind, two for the group, one for the number of filters, two for the filter's.
		{[]table.Entry{{Group: "g", Child: 1, Filters: []string{long(1964)}, Till: 9}}, `1: Graft g ["` + long(1964) + `"]`},
		{[]table.Entry{{Group: "g", Child: 1, Filters: []string{long(1965)}, Till: 9}}, "1: Graft g any"},
		{[]table.Entry{{Group: "g", Child: 1, Filters: []string{long(5000)}, Till: 9}}, "1: Graft g any"},
		{[]table.Entry{{Group: "g", Child: 1, Filters: []string{long(1000)}, Till: 9}, {Group: "g", Child: 2, Filters: []string{long(962)}, Till: 9}}, `1: Graft g ["` + long(962) + `" "` + long(1000) + `"]`},
		{[]table.Entry{{Group: "g", Child: 1, Filters: []string{long(1000)}, Till: 9}, {Group: "g", Child: 2, Filters: []string{long(963)}, Till: 9}}, "1: Graft g any"},
		{[]table.Entry{{Group: strings.Repeat("g", 40), Child: 1, Filters: []string{long(1925)}, Till: 9}}, "1: Graft " + strings.Repeat("g", 40) + ` ["` + long(1925) + `"]`},
		{[]table.Entry{{Group: strings.Repeat("g", 40), Child: 1, Filters: []string{long(1926)}, Till: 9}}, "1: Graft " + strings.Repeat("g", 40) + " any"},
	} {
		b := start(t, 0, 0, always(1))
		b.what = fmt.Sprint("wish ", i)
		b.get(c.l)
		b.tick(1)
		b.expectSent(c.want)
		if b.n.Lost() != 0 {
			t.Errorf("%s: Lost = %d", b.what, b.n.Lost())
		}
	}
}

// P16.3: the same of subscriptions alone: the same text is told once; of 16 long ones it is Any.
func TestWishesOfSubscriptions(t *testing.T) {
	b := start(t, 0, 0, always(1))
	b.subscribe(filters[0])
	b.subscribe(filters[0])
	b.tick(1)
	b.expectSent(`1: Graft price.0.0 ["price in 3..9"]`)
	quotes := strings.Repeat(`\"`, 39)
	for _, c := range []struct {
		subs int
		want string
	}{{11, ""}, {12, "Graft t.0.0 any"}, {16, "Graft t.0.0 any"}} {
		n, err := node.New(0, value.Schema{{Name: "t", Kind: value.Text}, {Name: "u", Kind: value.Text}}, 0)
		if err != nil {
			t.Fatal(err)
		}
		var l []string
		for i := range c.subs {
			// 174 bytes, and two for their number: twelve of them are too many for a message.
			text := fmt.Sprintf(`t = "%s%c" and u = "%s"`, quotes, 'a'+i, quotes)
			if _, err := n.Subscribe(text); err != nil {
				t.Fatal(err)
			}
			l = append(l, text)
		}
		if c.want == "" {
			c.want = fmt.Sprintf("Graft t.0.0 %q", l)
		}
		n.Tick(1, always(1))
		expectFirst(t, n, c.want)
	}
}

// expectFirst asks for one packet to 1, of this message.
func expectFirst(t *testing.T, n *node.Node, want string) {
	t.Helper()
	l := n.Packets()
	if len(l) != 1 || l[0].To != 1 {
		t.Fatalf("packets %s", toldOut(l))
	}
	var far link.Link
	s, came, err := far.Take(l[0].Text)
	if err != nil || !came {
		t.Fatalf("%v, %v", came, err)
	}
	if m, err := msg.Read(s); err != nil || toldMsg(m) != want {
		t.Errorf("sent %.200s, %v; not %.200s", toldMsg(m), err, want)
	}
}

// P16.3: what Env answers: none, an error, the node itself, another one, one that doesn't live.
func TestEnvAnswers(t *testing.T) {
	for i, c := range []struct {
		h    hop
		sent []string
		lost int
		open []int
	}{
		{hop{to: -1}, nil, 2, []int{1}},
		{hop{to: 3, err: api.ErrDead}, nil, 2, []int{1}},
		{hop{to: 0, err: errors.New("other")}, nil, 2, []int{1}},
		{hop{to: -1, err: &api.Fault{Err: api.ErrHops}}, nil, 2, []int{1}},
		{hop{to: 0}, nil, 0, nil},
		{hop{to: 3}, []string{`3: Graft price.0.0 ["price in 3..9"]`, "3: Graft x any", "3: Route price.0.0 0/1 hops 0 {[{5 } {0 a}] 5a}", "3: Route tag.0.0 0/1 hops 0 {[{5 } {0 a}] 5a}"}, 0, []int{1}},
		{hop{to: 6}, nil, 0, []int{1}},
		{hop{to: 32}, nil, 0, []int{1}},
		{hop{to: -2}, nil, 0, []int{1}},
	} {
		b := start(t, 0, 0, always(0))
		b.what = fmt.Sprint("answer ", i)
		b.e.other, b.e.dead[6] = c.h, true
		b.subscribe(filters[0])
		b.publish(sale(5, "a"))
		b.get([]table.Entry{{Group: "x", Child: 2, Any: true, Till: 9}})
		b.tick(1)
		b.expectSent(c.sent...)
		if b.n.Lost() != c.lost || !slices.Equal(b.n.Open(), c.open) {
			t.Errorf("%s: Lost = %d, Open = %v", b.what, b.n.Lost(), b.n.Open())
		}
		if got := b.n.Waits(); got != 1-len(c.open) {
			t.Errorf("%s: Waits = %d", b.what, got)
		}
		b.tick(2)
		b.check()
	}
}

// P16.3: None is nobody, also where all ints live; other ints are who Env says they are.
func TestWhereAllLive(t *testing.T) {
	n, err := node.New(0, shop(), 0)
	if err != nil {
		t.Fatal(err)
	}
	if _, err := n.Subscribe("price in 3..9"); err != nil {
		t.Fatal(err)
	}
	if _, err := n.Publish(sale(5, "a")); err != nil {
		t.Fatal(err)
	}
	e := always(-1)
	e.every = true
	n.Tick(1, e)
	if l := n.Packets(); len(l) != 0 || n.Lost() != 2 {
		t.Errorf("to None: %s, Lost = %d", toldOut(l), n.Lost())
	}
	var far link.Link
	if err := far.Push(mustBytes(t, route("x", 31, 1, 0, sale(5, "a")))); err != nil {
		t.Fatal(err)
	}
	if err := n.Take(math.MaxInt, far.Packets()[0], e); err != nil || n.Lost() != 3 {
		t.Errorf("Take: %v, Lost = %d", err, n.Lost())
	}
	for i, to := range []int{math.MinInt, -2, 32, math.MaxInt} {
		e.other.to = to
		n.Tick(2+i, e)
	}
	var got []int
	for _, o := range n.Packets() {
		got = append(got, o.To)
	}
	want := slices.Concat(slices.Repeat([]int{math.MinInt}, 3), slices.Repeat([]int{-2}, 3), slices.Repeat([]int{32}, 3), slices.Repeat([]int{math.MaxInt}, 3))
	if !slices.Equal(got, want) || n.Lost() != 3 {
		t.Errorf("packets to %v, Lost = %d", got, n.Lost())
	}
}

// P16.3: a wish holds for 4 ticks behind the last one, up to Till, and goes behind it.
func TestLeases(t *testing.T) {
	b := start(t, 0, 0, always(0))
	b.tell(1, graft("x", "a"))
	if l := b.n.Children("x"); len(l) != 1 || l[0].Till != 4 {
		t.Errorf("ahead of all ticks: %s", told(l))
	}
	b.tick(3)
	b.tell(2, graft("x", "b", "a", "b"))
	if got := told(b.n.Children("x")); got != `("x" 1 ["a"] false 4)("x" 2 ["a" "b"] false 7)` {
		t.Errorf("Children = %s", got)
	}
	for _, c := range []struct{ now, left int }{{3, 2}, {4, 2}, {4, 2}, {5, 1}, {6, 1}, {7, 1}, {8, 0}, {9, 0}} {
		b.tick(c.now)
		b.check()
		if b.n.Entries() != c.left {
			t.Errorf("at %d there are %d", c.now, b.n.Entries())
		}
	}
	// One that is told again holds again from then on, and is what was told last.
	b.tell(1, graft("x", "a"))
	b.tick(13)
	b.tell(1, graftAny("x"))
	b.tick(17)
	if got := told(b.n.Children("x")); got != `("x" 1 [] true 17)` {
		t.Errorf("Children = %s", got)
	}
	b.tick(18)
	b.check()
	if b.n.Entries() != 0 || b.n.Lost() != 0 {
		t.Errorf("Entries = %d, Lost = %d", b.n.Entries(), b.n.Lost())
	}
}

// P1: ticks may be any numbers that don't go back.
func TestFirstAndLastTicks(t *testing.T) {
	b := start(t, 0, 0, always(0))
	b.tick(math.MinInt)
	b.tell(1, graft("x"))
	if l := b.n.Children("x"); len(l) != 1 || l[0].Till != math.MinInt+4 {
		t.Errorf("the first tick: %s", told(l))
	}
	b.tick(math.MinInt + 4)
	b.check()
	b.tick(math.MaxInt - 4)
	b.check()
	b.tell(1, graft("x"))
	b.check()
	n := b.n
	n.Tick(math.MaxInt-2, b.e)
	p := b.peer(1)
	b.say(1, graft("y"))
	for _, s := range p.Packets() {
		if err := n.Take(1, s, b.e); err != nil {
			t.Error(err)
		}
	}
	n.Tick(math.MaxInt, b.e)
	// No tick is behind the last one: the wish can't be over.
	if n.Entries() != 2 {
		t.Errorf("Entries = %d", n.Entries())
	}
}

// P16.3: links to peers that don't live go, and wishes of children that don't.
func TestWhoDoesNotLive(t *testing.T) {
	b := start(t, 0, 0, always(3))
	for _, child := range []int{1, 2, 3} {
		b.tell(child, graft("x", fmt.Sprint(child)))
		b.tell(child, graftAny("y"))
	}
	b.get([]table.Entry{{Group: "x", Child: -5, Till: 9}, {Group: "x", Child: 99, Till: 9}, {Group: "x", Child: 31, Till: 9}})
	b.check()
	b.e.dead[2], b.e.dead[3] = true, true
	b.check()
	if b.n.Entries() != 9 {
		t.Errorf("ahead of Tick: Entries = %d", b.n.Entries())
	}
	b.tick(1)
	b.check()
	if got := told(append(b.n.Children("x"), b.n.Children("y")...)); got != `("x" 1 ["1"] false 4)("x" 31 [] false 9)("y" 1 [] true 4)` {
		t.Errorf("Children = %s", got)
	}
	b.expectSent()
}

// P16.3: packets wait till they are told to have come; with the peer they go.
func TestLinksGo(t *testing.T) {
	b := start(t, 0, 0, always(3))
	b.subscribe(filters[0])
	b.tick(1)
	if b.n.Idle() || len(b.n.Packets()) != 1 || b.n.Idle() || len(b.n.Packets()) != 1 {
		t.Error("a packet waits till its peer told that it came")
	}
	b.e.dead[3] = true
	if b.n.Idle() || len(b.n.Packets()) != 1 {
		t.Error("ahead of Tick nothing goes")
	}
	b.tick(2)
	if !b.n.Idle() || len(b.n.Packets()) != 0 {
		t.Error("what waits for one who doesn't live")
	}
	b.check()
	if b.n.Lost() != 0 {
		t.Errorf("Lost = %d", b.n.Lost())
	}
}

// P16.1: packets by rising peers, of each the first eight that wait.
func TestPackets(t *testing.T) {
	b := start(t, 0, 0, always(9))
	b.get(wishes(30, 1, 9))
	for i, to := range []int{31, 2, 10, 9} {
		for k := range 3 * (i + 1) {
			b.e.set(fmt.Sprintf("g%03d", 5*i+k), to, nil)
		}
	}
	b.tick(1)
	var got []int
	for _, o := range b.n.Packets() {
		got = append(got, o.To)
	}
	want := slices.Concat(slices.Repeat([]int{2}, 5), slices.Repeat([]int{9}, 8), slices.Repeat([]int{10}, 5), slices.Repeat([]int{31}, 3))
	if !slices.Equal(got, want) {
		t.Errorf("packets to %v, not %v", got, want)
	}
	b.w.packets()
	b.sent()
	b.check()
}

// P16.4: 64 messages wait for a peer; what comes behind them is lost, and the events are sent again.
func TestQueueIsFull(t *testing.T) {
	b := start(t, 0, 0, always(1))
	b.get(wishes(63, 2, 9))
	b.publish(sale(5, "a"))
	b.tick(1)
	b.check()
	if b.n.Lost() != 1 {
		t.Errorf("Lost = %d", b.n.Lost())
	}
	l := b.sent()
	if len(l) != 64 || l[63] != "1: Route price.0.0 0/1 hops 0 {[{5 } {0 a}] 5a}" {
		t.Errorf("sent %d, the last one %s", len(l), l[len(l)-1])
	}
	// Nothing is taken from the queue meanwhile: all is lost.
	b.tick(2)
	b.tick(3)
	b.check()
	if b.n.Lost() != 1+1+65 {
		t.Errorf("Lost = %d", b.n.Lost())
	}
	if len(b.sent()) != 64 {
		t.Error("64 wait")
	}
	b.hand(0, 0)
	b.tick(4)
	b.expectSent("1: Route price.0.0 0/1 hops 0 {[{5 } {0 a}] 5a}", "1: Route tag.0.0 0/1 hops 0 {[{5 } {0 a}] 5a}")
}

// P16.3: wishes are handed and gotten: those of the groups that lie there; what the node itself wants isn't its child's wish.
func TestHandAndGet(t *testing.T) {
	b := start(t, 4, 0, always(4))
	all := wishes(20, 1, 9)
	all = append(all, wishes(20, 4, 9)...)
	all = append(all, wishes(20, 2, 1)...)
	b.get(all)
	b.check()
	if b.n.Entries() != 40 || b.n.Lost() != 0 {
		t.Errorf("Entries = %d, Lost = %d", b.n.Entries(), b.n.Lost())
	}
	key := func(i int) api.Id { return keyOf(fmt.Sprintf("g%03d", i)) }
	b.hand(key(3), key(3)-1)
	b.check()
	if l := b.n.Children("g003"); len(l) != 2 || b.n.Entries() != 2 {
		t.Errorf("Entries = %d, %s", b.n.Entries(), told(l))
	}
	b.hand(key(3), key(3)+1)
	b.check()
	if b.n.Entries() != 2 {
		t.Errorf("Entries = %d", b.n.Entries())
	}
	b.hand(key(3)-1, key(3))
	b.check()
	if b.n.Entries() != 0 {
		t.Errorf("Entries = %d", b.n.Entries())
	}
	b.get(all)
	b.hand(7, 7)
	b.check()
	if b.n.Entries() != 0 {
		t.Errorf("Entries = %d", b.n.Entries())
	}
	// What is gotten holds till its Till, and is cleaned.
	b.tick(5)
	b.get([]table.Entry{{Group: "x", Child: 1, Till: 4}, {Group: "x", Child: 2, Filters: []string{"b", "a", "b"}, Till: 6}, {Group: "x", Child: 3, Filters: []string{"b"}, Any: true, Till: 5}})
	if got := told(b.n.Children("x")); got != `("x" 1 [] false 4)("x" 2 ["a" "b"] false 6)("x" 3 [] true 5)` {
		t.Errorf("Children = %s", got)
	}
	b.tick(6)
	b.check()
	if b.n.Entries() != 1 {
		t.Errorf("Entries = %d", b.n.Entries())
	}
}

// P16.4: the 401st wish is lost, told or gotten; one that takes another's place isn't.
func TestTableIsFull(t *testing.T) {
	b := start(t, 0, 0, always(0))
	b.get(wishes(399, 1, 9))
	b.tell(2, graft("x"))
	b.check()
	if b.n.Entries() != 400 || b.n.Lost() != 0 {
		t.Errorf("Entries = %d, Lost = %d", b.n.Entries(), b.n.Lost())
	}
	b.tell(3, graft("x"))
	b.tell(2, graft("y"))
	b.get(wishes(401, 1, 8))
	b.get(wishes(3, 0, 8))
	b.tell(2, graft("x", "a"))
	b.check()
	if b.n.Entries() != 400 || b.n.Lost() != 4 {
		t.Errorf("Entries = %d, Lost = %d", b.n.Entries(), b.n.Lost())
	}
	if got := told(b.n.Children("x")); got != `("x" 2 ["a"] false 4)` {
		t.Errorf("Children = %s", got)
	}
}
