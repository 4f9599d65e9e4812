package node_test

import (
	"errors"
	"fmt"
	"math"
	"slices"
	"strings"
	"testing"

	"wigwag/api"
	"wigwag/filter"
	"wigwag/node"
	"wigwag/value"
)

// P16.1: the limits' names.
func TestNames(t *testing.T) {
	if node.Lease != 4 || node.MaxSpread != 512 {
		t.Error(node.Lease, node.MaxSpread)
	}
}

// P16.1: the chapter's example.
func TestExample(t *testing.T) {
	n, err := node.New(0, value.Schema{{Name: "price", Kind: value.Int, Max: 99}}, 3)
	if err != nil {
		t.Fatal(err)
	}
	if id, err := n.Subscribe("price in 3..9"); id != 1 || err != nil {
		t.Errorf("Subscribe: %d, %v", id, err)
	}
	if seq, err := n.Publish(value.Event{Values: []value.Value{{Num: 5}}}); seq != 1 || err != nil {
		t.Errorf("Publish: %d, %v", seq, err)
	}
	if open := n.Open(); !slices.Equal(open, []int{1}) || n.Waits() != 0 {
		t.Errorf("ahead of Tick: Open = %v, Waits = %d", open, n.Waits())
	}
	n.Tick(1, always(0))
	if n.Waits() != 1 || len(n.Open()) != 0 || !n.Idle() || n.Lost() != 0 || n.Entries() != 0 {
		t.Errorf("Waits = %d, Open = %v, Idle = %v, Lost = %d, Entries = %d", n.Waits(), n.Open(), n.Idle(), n.Lost(), n.Entries())
	}
	got := n.Poll(9)
	if len(got) != 1 || got[0].Sub != 1 || got[0].Pub != 0 || got[0].Seq != 1 || len(got[0].Event.Values) != 1 || got[0].Event.Values[0].Num != 5 {
		t.Errorf("Poll: %v", got)
	}
	if n.Waits() != 0 || len(n.Poll(9)) != 0 || len(n.Packets()) != 0 {
		t.Error("something is left")
	}
}

// P16.1: addresses 0 to 31, levels 0 to 8, a schema; the first wrong one is told.
func TestNew(t *testing.T) {
	for _, addr := range []int{math.MinInt, -1, 0, 1, 31, 32, math.MaxInt} {
		for _, levels := range []int{math.MinInt, -1, 0, 1, 8, 9, math.MaxInt} {
			for i, s := range []value.Schema{shop(), nil, {}, {shop()[0], {Name: "in", Kind: value.Text}}, append(append(shop(), shop()...), shop()[0])} {
				want := api.OK
				if addr < 0 || addr > 31 || levels < 0 || levels > 8 {
					want = api.ErrArg
				} else if i > 0 {
					want = api.ErrSchema
				}
				n, err := node.New(addr, s, levels)
				if api.Of(err) != want || (n == nil) != (want != api.OK) {
					t.Errorf("New(%d, %d, %d) = %v, %v; not %v", addr, i, levels, n, err, want)
				}
				var fault *api.Fault
				if want == api.ErrSchema && (!errors.As(err, &fault) || fault.At != []int{0, 0, 0, 1, 0}[i]) {
					t.Errorf("New(%d, %d, %d): the fault %v", addr, i, levels, err)
				}
			}
		}
	}
}

// P16.1: a new node has nothing.
func TestNewNodeIsEmpty(t *testing.T) {
	b := start(t, 3, 2, always(1))
	b.named[""], b.named["price.0.0"] = true, true
	b.check()
	for _, most := range []int{math.MinInt, -1, 0, 1, math.MaxInt} {
		b.poll(most)
	}
	b.unsubscribe(0)
	b.unsubscribe(1)
	b.unsubscribe(-1)
	b.hand(0, 0)
	b.get(nil)
	b.tick(1)
	b.expectSent()
	if !b.n.Idle() || b.n.Lost() != 0 || len(b.n.Packets()) != 0 {
		t.Error("it isn't empty")
	}
}

// P16.1, P16.4: the error of filter.Read; the 17th; numbers from 1 on, none given again; the text as it is printed, the filter, its groups.
func TestSubscribe(t *testing.T) {
	b := start(t, 0, 3, always(0))
	refuse := func() {
		t.Helper()
		b.refuseSubscribe("price in", api.ErrParse)
		b.refuseSubscribe("", api.ErrParse)
		b.refuseSubscribe("price in 9..3", api.ErrSchema)
		b.refuseSubscribe("price in 0..100", api.ErrSchema)
		b.refuseSubscribe(`color = "x"`, api.ErrSchema)
		b.refuseSubscribe("price in 3..9"+strings.Repeat(" ", 300), api.ErrArg)
		b.check()
	}
	refuse()
	var fault *api.Fault
	if _, err := b.n.Subscribe("price in"); !errors.As(err, &fault) || fault.At != 8 {
		t.Errorf("the fault: %v", err)
	}
	b.subscribe(filters[5])
	want := `(1 "price in 20..70 and tag = \"\"" [{price 1 20 70 } {tag 2 0 0 }] ["tag.3.0"])`
	if got := toldSubs(b.n.Subs()); got != want {
		t.Errorf("Subs = %s; not %s", got, want)
	}
	refuse()
	for i := 2; i <= 16; i++ {
		b.subscribe(filters[i%len(filters)])
		b.check()
	}
	b.refuseSubscribe("price in 3..9", api.ErrFull)
	b.check()
	// What isn't a filter is told ahead of what has no room.
	refuse()
	for _, id := range []int{16, 3, 1} {
		b.unsubscribe(id)
		b.check()
	}
	for range 4 {
		b.subscribe(filters[0])
		b.check()
	}
	subs := b.n.Subs()
	if len(subs) != 16 || subs[0].Id != 2 || subs[13].Id != 17 || subs[14].Id != 18 || subs[15].Id != 19 {
		t.Errorf("Subs = %s", toldSubs(subs))
	}
}

// P16.1, P16.2: a subscription goes with what waits for it, and nothing else does.
func TestUnsubscribe(t *testing.T) {
	b := start(t, 0, 3, always(0))
	for _, id := range []int{0, 1, -1, math.MinInt, math.MaxInt} {
		b.unsubscribe(id)
	}
	b.subscribe(filters[0])
	b.subscribe(filters[1])
	b.subscribe(filters[0])
	for _, price := range []int{5, 50, 9} {
		b.publish(sale(price, ""))
	}
	b.tick(1)
	b.check()
	if b.n.Waits() != 7 {
		t.Errorf("Waits = %d", b.n.Waits())
	}
	b.unsubscribe(1)
	b.check()
	if b.n.Waits() != 5 {
		t.Errorf("Waits = %d", b.n.Waits())
	}
	b.unsubscribe(1)
	b.unsubscribe(4)
	b.check()
	// What came already comes to nobody who subscribes behind it.
	b.subscribe(filters[1])
	b.tick(2)
	b.check()
	want := "(2 0 1)(3 0 1)(2 0 2)(2 0 3)(3 0 3)"
	var got strings.Builder
	for _, d := range b.poll(100) {
		fmt.Fprintf(&got, "(%d %d %d)", d.Sub, d.Pub, d.Seq)
	}
	if got.String() != want {
		t.Errorf("polled %s; not %s", got.String(), want)
	}
	b.check()
}

// P16.1, P16.4: the error of group.Reach; the ninth that isn't confirmed; numbers from 1 on, one more each time.
func TestPublish(t *testing.T) {
	e := always(1)
	b := start(t, 0, 2, e)
	refuse := func() {
		t.Helper()
		for _, e := range []value.Event{{}, sale(100, ""), sale(-1, ""), {Values: sale(5, "a").Values[:1]}, {Values: append(sale(5, "a").Values, value.Value{})}, {Values: sale(5, "a").Values, Payload: strings.Repeat("p", 201)}} {
			b.publish(e)
			b.check()
		}
	}
	refuse()
	for i := range 8 {
		b.publish(sale(i, "a"))
		b.check()
	}
	b.publish(sale(5, "a"))
	// What is no event is told ahead of what has no room.
	refuse()
	if open := b.n.Open(); !slices.Equal(open, []int{1, 2, 3, 4, 5, 6, 7, 8}) {
		t.Errorf("Open = %v", open)
	}
	// Now the node is the root of all.
	e.other.to = 0
	b.tick(1)
	b.check()
	b.publish(sale(5, "a"))
	if open := b.n.Open(); !slices.Equal(open, []int{9}) {
		t.Errorf("Open = %v", open)
	}
	b.publish(value.Event{Values: sale(5, "a").Values, Payload: strings.Repeat("p", 200)})
	b.check()
}

// P16.1: the first ones that wait, at most so many.
func TestPoll(t *testing.T) {
	b := start(t, 0, 1, always(0))
	b.subscribe(filters[1])
	for i := range 5 {
		b.publish(sale(i, ""))
	}
	b.tick(1)
	for _, c := range []struct{ most, want int }{{-1, 0}, {math.MinInt, 0}, {0, 0}, {2, 2}, {1, 1}, {0, 0}, {3, 2}, {3, 0}, {math.MaxInt, 0}} {
		if got := b.poll(c.most); len(got) != c.want {
			t.Errorf("Poll(%d) = %s", c.most, toldDeliveries(got))
		}
		b.check()
	}
	for i := range 3 {
		b.publish(sale(i, ""))
	}
	b.tick(2)
	if got := b.poll(math.MaxInt); len(got) != 3 {
		t.Errorf("Poll = %s", toldDeliveries(got))
	}
}

// P16.4: 64 deliveries wait; the 65th is lost, and isn't made up for.
func TestInboxIsFull(t *testing.T) {
	b := start(t, 0, 1, always(0))
	for range 16 {
		b.subscribe(filters[1])
	}
	for range 4 {
		b.publish(sale(5, ""))
	}
	b.tick(1)
	b.check()
	if b.n.Waits() != 64 || b.n.Lost() != 0 {
		t.Errorf("Waits = %d, Lost = %d", b.n.Waits(), b.n.Lost())
	}
	b.poll(1)
	b.publish(sale(6, ""))
	b.tick(2)
	b.check()
	if b.n.Waits() != 64 || b.n.Lost() != 15 || len(b.n.Open()) != 0 {
		t.Errorf("Waits = %d, Lost = %d, Open = %v", b.n.Waits(), b.n.Lost(), b.n.Open())
	}
	// The eldest subscription got the place.
	if got := b.poll(64); got[63].Sub != 1 || got[63].Seq != 5 {
		t.Errorf("the last one is %v", got[63])
	}
	b.tick(3)
	b.check()
	if b.n.Waits() != 0 {
		t.Errorf("Waits = %d", b.n.Waits())
	}
}

// P16.2: it goes to the eldest subscription first, once, by however many groups it comes; an event of a later number may come first.
func TestOrderOfDeliveries(t *testing.T) {
	b := start(t, 2, 3, always(2))
	for _, i := range []int{1, 0, 3, 8, 1} {
		b.subscribe(filters[i])
	}
	b.publish(sale(4, "ab"))
	b.publish(sale(40, "b"))
	b.tick(1)
	b.check()
	var got strings.Builder
	for _, d := range b.poll(100) {
		fmt.Fprintf(&got, "(%d %d %d)", d.Sub, d.Pub, d.Seq)
	}
	if want := "(1 2 1)(2 2 1)(3 2 1)(5 2 1)(1 2 2)(4 2 2)(5 2 2)"; got.String() != want {
		t.Errorf("polled %s; not %s", got.String(), want)
	}
}

// P16.3: a filter that is printed longer than it may be read, at the child and at the root.
func TestFilterThatIsPrintedLong(t *testing.T) {
	names := []string{"abcdefghijkl", "bbbbbbbbbbbb", "cccccccccccc", "d"}
	var s value.Schema
	for _, name := range names {
		s = append(s, value.Attr{Name: name, Kind: value.Text})
	}
	signs := strings.Repeat(`"`, 35) + " and "
	typed := strings.Join([]string{names[0] + `="` + strings.ReplaceAll(signs, `"`, `\"`) + `"`, names[1] + `^="` + strings.Repeat(`\\`, 39) + `"`, names[2] + `="` + strings.Repeat(`\"`, 40) + `"`, `d=""`}, "and ")
	if len(typed) > 300 || len(filter.Print(mustRead(t, s, typed))) <= 300 {
		t.Fatalf("%d bytes, printed %d", len(typed), len(filter.Print(mustRead(t, s, typed))))
	}
	right := value.Event{Values: []value.Value{{Str: signs}, {Str: strings.Repeat(`\`, 40)}, {Str: strings.Repeat(`"`, 40)}, {}}}
	wrong := value.Event{Values: slices.Clone(right.Values)}
	wrong.Values[3].Str = "x"
	p := newPair(t, s, 2)
	if _, err := p.nodes[0].Subscribe(typed); err != nil {
		t.Fatal(err)
	}
	p.tick(0, 1)
	p.settle()
	text := p.nodes[0].Subs()[0].Text
	for _, g := range p.nodes[0].Subs()[0].Groups {
		if l := p.nodes[1].Children(g); len(l) != 1 || !slices.Equal(l[0].Filters, []string{text}) {
			t.Errorf("the wish: %s", told(l))
		}
	}
	for i, n := range p.nodes {
		for _, e := range []value.Event{right, wrong} {
			if _, err := n.Publish(e); err != nil {
				t.Errorf("Publish at %d: %v", i, err)
			}
		}
	}
	p.tick(1, 0)
	p.settle()
	got := p.nodes[0].Poll(100)
	if len(got) != 2 || got[0].Seq != 1 || got[1].Seq != 1 || got[0].Pub+got[1].Pub != 1 {
		t.Errorf("polled %s", toldDeliveries(got))
	}
	if len(p.downs) != 2 {
		t.Errorf("%d went down, of which the child wants 2", len(p.downs))
	}
}

func mustRead(t *testing.T, s value.Schema, text string) value.Filter {
	t.Helper()
	f, err := filter.Read(s, text)
	if err != nil {
		t.Fatalf("Read(%q): %v", text, err)
	}
	return f
}
