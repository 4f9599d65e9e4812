package board_test

import (
	"errors"
	"math"
	"slices"
	"strings"
	"testing"

	"wigwag/api"
	"wigwag/board"
	"wigwag/filter"
	"wigwag/node"
	"wigwag/value"
)

func newBoard(t *testing.T) *board.Board {
	t.Helper()
	b, err := board.New(shop())
	if err != nil || b == nil {
		t.Fatalf("New: %v, %v", b, err)
	}
	return b
}

func mustPublish(t *testing.T, b *board.Board, pub, seq int, e value.Event) {
	t.Helper()
	if err := b.Publish(pub, seq, e); err != nil {
		t.Fatalf("Publish(%d, %d, %v): %v", pub, seq, e, err)
	}
}

func mustSubscribe(t *testing.T, b *board.Board, w board.Who, text string) {
	t.Helper()
	if err := b.Subscribe(w, text); err != nil {
		t.Fatalf("Subscribe(%v, %q): %v", w, text, err)
	}
}

func expectCode(t *testing.T, what string, err error, want api.Code) {
	t.Helper()
	if api.Of(err) != want || want != api.OK && !errors.Is(err, want) {
		t.Errorf("%s: %v, not %v", what, err, want)
	}
}

// expectFault: the code, and the outermost Fault's At.
func expectFault(t *testing.T, what string, err error, want api.Code, at int) {
	t.Helper()
	expectCode(t, what, err, want)
	var f *api.Fault
	if !errors.As(err, &f) || f.At != at {
		t.Errorf("%s: %v: %+v, not at %d", what, err, f, at)
	}
}

func expectDue(t *testing.T, b *board.Board, pub, seq int, want ...board.Who) {
	t.Helper()
	if l, err := b.Due(pub, seq); err != nil || !slices.Equal(l, want) {
		t.Errorf("Due(%d, %d): %v, %v, not %v", pub, seq, l, err, want)
	}
}

func expectGive(t *testing.T, b *board.Board, n int, d node.Delivery, want api.Code) {
	t.Helper()
	if err := b.Give(n, d); api.Of(err) != want {
		t.Errorf("Give(%d, %v): %v, not %v", n, d, err, want)
	}
}

// P18.1, P18.2: the chapter's example.
func TestExample(t *testing.T) {
	b, err := board.New(value.Schema{{Name: "price", Kind: value.Int, Max: 99}})
	if err != nil {
		t.Fatal(err)
	}
	five := value.Event{Values: []value.Value{{Num: 5}}}
	mustPublish(t, b, 2, 1, five)
	mustSubscribe(t, b, board.Who{Node: 0, Sub: 1}, "price in 3..9")
	expectDue(t, b, 2, 1, board.Who{Node: 0, Sub: 1})
	d := node.Delivery{Sub: 1, Pub: 2, Seq: 1, Event: five}
	expectGive(t, b, 0, d, api.OK)
	expectGive(t, b, 0, d, api.ErrBusy)
	expectDue(t, b, 2, 1)
}

// P18.1: New of what is no schema: the schema's own error, and no board.
func TestNoSchema(t *testing.T) {
	price := value.Attr{Name: "price", Kind: value.Int, Max: 99}
	for _, c := range []struct {
		s  value.Schema
		at int
	}{
		{nil, 0},
		{value.Schema{}, 0},
		{value.Schema{price, {Name: "a", Kind: 2}, {Name: "b", Kind: 2}, {Name: "c", Kind: 2}, {Name: "d", Kind: 2}}, 0},
		{value.Schema{{Name: "Price", Kind: value.Int, Max: 99}}, 0},
		{value.Schema{price, price}, 1},
		{value.Schema{price, {Name: "a", Kind: 2}, {Name: "in", Kind: 2}}, 2},
		{value.Schema{price, {Name: "a", Kind: 2}, {Name: "b", Kind: 1}, {Name: "d", Kind: 3}}, 3},
		{value.Schema{price, {Name: "a", Kind: value.Int, Min: 2, Max: 1}}, 1},
	} {
		b, err := board.New(c.s)
		if b != nil {
			t.Errorf("New(%v): a board", c.s)
		}
		expectFault(t, "New", err, api.ErrSchema, c.at)
	}
}

// P18.1: an empty board has nothing.
func TestEmpty(t *testing.T) {
	b := newBoard(t)
	l, err := b.Due(0, 0)
	expectCode(t, "Due", err, api.ErrNone)
	if len(l) != 0 || b.Gone(0) != 0 {
		t.Errorf("Due: %v; or Gone isn't 0", l)
	}
	expectCode(t, "Unsubscribe", b.Unsubscribe(board.Who{}), api.ErrNone)
	expectGive(t, b, 0, node.Delivery{}, api.ErrNone)
	// What was refused isn't there.
	expectGive(t, b, 0, node.Delivery{}, api.ErrNone)
}

// P18.1: what is no event of the schema is refused with the schema's own error, also of a publisher and number that stand there.
func TestPublishNoEvent(t *testing.T) {
	b := newBoard(t)
	mustPublish(t, b, 1, 1, sale(5, "a"))
	mustSubscribe(t, b, board.Who{}, "price in 0..99")
	long := sale(5, "a")
	long.Payload = strings.Repeat("p", 201)
	for _, c := range []struct {
		e  value.Event
		at int
	}{
		{value.Event{}, 0},
		{value.Event{Values: []value.Value{{Num: 5}}}, 0},
		{value.Event{Values: []value.Value{{Num: 5}, {Str: "a"}, {}}}, 0},
		{long, 0},
		{sale(-1, "a"), 0},
		{sale(100, "a"), 0},
		{value.Event{Values: []value.Value{{Num: 5, Str: "a"}, {Str: "a"}}}, 0},
		{value.Event{Values: []value.Value{{Num: 5}, {Num: 1, Str: "a"}}}, 1},
		{sale(5, "\x7f"), 1},
		{sale(5, strings.Repeat("a", 41)), 1},
	} {
		for _, seq := range []int{1, 2} {
			expectFault(t, "Publish", b.Publish(1, seq, c.e), api.ErrSchema, c.at)
		}
	}
	_, err := b.Due(1, 2)
	expectCode(t, "Due", err, api.ErrNone)
	expectDue(t, b, 1, 1, board.Who{})
	longest := value.Event{Values: []value.Value{{Num: 99}, {Str: strings.Repeat("~", 40)}}, Payload: strings.Repeat("\x00", 200)}
	mustPublish(t, b, 1, 2, longest)
	expectGive(t, b, 0, node.Delivery{Pub: 1, Seq: 2, Event: longest}, api.OK)
}

// P18.1: a publisher and number that stand there stay as they are.
func TestPublishTwice(t *testing.T) {
	b := newBoard(t)
	who := board.Who{Node: 1, Sub: 2}
	mustSubscribe(t, b, who, "price in 3..9")
	mustPublish(t, b, 1, 2, sale(5, "a"))
	expectCode(t, "the same event", b.Publish(1, 2, sale(5, "a")), api.ErrBusy)
	expectCode(t, "another event", b.Publish(1, 2, sale(50, "a")), api.ErrBusy)
	expectDue(t, b, 1, 2, who)
	expectGive(t, b, 1, node.Delivery{Sub: 2, Pub: 1, Seq: 2, Event: sale(50, "a")}, api.ErrForm)
	// The same values of another publisher or number are another event.
	mustPublish(t, b, 2, 1, sale(5, "a"))
	mustPublish(t, b, 1, 1, sale(5, "a"))
	expectGive(t, b, 1, node.Delivery{Sub: 2, Pub: 1, Seq: 2, Event: sale(5, "a")}, api.OK)
	expectCode(t, "what was given", b.Publish(1, 2, sale(5, "a")), api.ErrBusy)
	expectDue(t, b, 1, 2)
	expectDue(t, b, 2, 1, who)
	expectDue(t, b, 1, 1, who)
}

// P18.1: a text that is no filter of the schema is refused with filter.Read's error, also of a subscription that stands there.
func TestSubscribeNoFilter(t *testing.T) {
	b := newBoard(t)
	mustPublish(t, b, 1, 1, sale(5, "a"))
	mustSubscribe(t, b, board.Who{Node: 1, Sub: 1}, "price in 3..9")
	for _, c := range []struct {
		text string
		code api.Code
		at   int
	}{
		{"", api.ErrParse, 0},
		{"price", api.ErrParse, 5},
		{"price in", api.ErrParse, 8},
		{"price in 03..9", api.ErrParse, 9},
		{`tag = "a`, api.ErrParse, 8},
		{"price in 3..9" + strings.Repeat(" ", 288), api.ErrArg, 0},
		{"price in 9..3", api.ErrSchema, 0},
		{"cost in 3..9", api.ErrSchema, 0},
		{`price in 3..9 and tag ^= ""`, api.ErrSchema, 0},
		{"price in 3..9 and price in 3..9", api.ErrSchema, 0},
		{`tag = "a" and price = "5"`, api.ErrSchema, 0},
	} {
		_, want := filter.Read(shop(), c.text)
		for _, sub := range []int{1, 2} {
			err := b.Subscribe(board.Who{Node: 1, Sub: sub}, c.text)
			expectFault(t, c.text, err, c.code, c.at)
			// The schema's own Fault, with the predicate's place, lies within.
			if faults(err) != faults(want) {
				t.Errorf("%s: %s, not %s", c.text, faults(err), faults(want))
			}
		}
	}
	expectDue(t, b, 1, 1, board.Who{Node: 1, Sub: 1})
	expectCode(t, "Unsubscribe", b.Unsubscribe(board.Who{Node: 1, Sub: 2}), api.ErrNone)
	mustSubscribe(t, b, board.Who{Node: 1, Sub: 2}, "price in 3..9"+strings.Repeat(" ", 287))
}

// P18.1: a subscription that stands there stays as it is.
func TestSubscribeTwice(t *testing.T) {
	b := newBoard(t)
	who := board.Who{Node: 1, Sub: 2}
	mustPublish(t, b, 1, 1, sale(5, "a"))
	mustPublish(t, b, 1, 2, sale(50, "a"))
	mustSubscribe(t, b, who, "price in 3..9")
	expectCode(t, "the same filter", b.Subscribe(who, "price in 3..9"), api.ErrBusy)
	expectCode(t, "another filter", b.Subscribe(who, "price in 0..99"), api.ErrBusy)
	expectDue(t, b, 1, 1, who)
	expectDue(t, b, 1, 2)
	expectGive(t, b, 1, node.Delivery{Sub: 2, Pub: 1, Seq: 2, Event: sale(50, "a")}, api.ErrSchema)
	// The node and the number told the other way round are another subscription.
	mustSubscribe(t, b, board.Who{Node: 2, Sub: 1}, "price in 0..99")
	expectDue(t, b, 1, 1, who, board.Who{Node: 2, Sub: 1})
}

// P18.1: Unsubscribe.
func TestUnsubscribe(t *testing.T) {
	b := newBoard(t)
	mustPublish(t, b, 0, 0, sale(5, "a"))
	for _, w := range named([]int{0, 1}, []int{0, 1}) {
		mustSubscribe(t, b, w, "price in 3..9")
	}
	expectCode(t, "one that isn't there", b.Unsubscribe(board.Who{Node: 1, Sub: 2}), api.ErrNone)
	expectCode(t, "one that is", b.Unsubscribe(board.Who{Node: 1, Sub: 0}), api.OK)
	expectCode(t, "twice", b.Unsubscribe(board.Who{Node: 1, Sub: 0}), api.ErrNone)
	expectDue(t, b, 0, 0, board.Who{}, board.Who{Sub: 1}, board.Who{Node: 1, Sub: 1})
	expectGive(t, b, 1, node.Delivery{Event: sale(5, "a")}, api.ErrStale)
}

// P18.1: Gone of a node with none, one and many subscriptions, beside others.
func TestGone(t *testing.T) {
	b := newBoard(t)
	mustPublish(t, b, 0, 0, sale(5, "a"))
	one, other := board.Who{Node: -1, Sub: 3}, board.Who{Node: 3, Sub: -1}
	mustSubscribe(t, b, one, "price in 3..9")
	mustSubscribe(t, b, other, "price in 3..9")
	for i := range 40 {
		// Some of them take the event.
		mustSubscribe(t, b, board.Who{Node: 7, Sub: i - 20}, []string{"price in 3..9", `tag = "b"`}[i%2])
	}
	for _, c := range [][2]int{{5, 0}, {math.MinInt, 0}, {7, 40}, {7, 0}} {
		if n := b.Gone(c[0]); n != c[1] {
			t.Errorf("Gone(%d): %d, not %d", c[0], n, c[1])
		}
	}
	expectDue(t, b, 0, 0, one, other)
	if n := b.Gone(3); n != 1 {
		t.Errorf("Gone(3): %d", n)
	}
	expectDue(t, b, 0, 0, one)
	expectGive(t, b, 7, node.Delivery{Sub: 0, Event: sale(5, "a")}, api.ErrStale)
	mustSubscribe(t, b, other, "price in 3..9")
	expectDue(t, b, 0, 0, one, other)
}

// P18.1, P18.2: a subscription that goes and is made again with its number is the same one, also with another filter.
func TestMadeAgain(t *testing.T) {
	who := board.Who{Node: 4, Sub: 1}
	for name, goes := range map[string]func(*board.Board){
		"Unsubscribe": func(b *board.Board) { b.Unsubscribe(who) },
		"Gone":        func(b *board.Board) { b.Gone(4) },
	} {
		b := newBoard(t)
		mustPublish(t, b, 2, 1, sale(5, "a"))
		mustPublish(t, b, 2, 2, sale(6, "a"))
		mustSubscribe(t, b, who, "price in 3..9")
		first := node.Delivery{Sub: 1, Pub: 2, Seq: 1, Event: sale(5, "a")}
		second := node.Delivery{Sub: 1, Pub: 2, Seq: 2, Event: sale(6, "a")}
		expectGive(t, b, 4, first, api.OK)
		for _, text := range []string{"price in 3..9", `tag ^= "a"`, "price in 5..5", "price in 6..6", "price in 3..9"} {
			goes(b)
			expectDue(t, b, 2, 1)
			expectDue(t, b, 2, 2)
			expectGive(t, b, 4, first, api.ErrStale)
			expectGive(t, b, 4, second, api.ErrStale)
			mustSubscribe(t, b, who, text)
			expectDue(t, b, 2, 1)
			if text == "price in 6..6" {
				expectGive(t, b, 4, first, api.ErrSchema)
			} else {
				expectGive(t, b, 4, first, api.ErrBusy)
			}
			if text == "price in 5..5" {
				expectDue(t, b, 2, 2)
			} else {
				expectDue(t, b, 2, 2, who)
			}
		}
		// What it didn't get it may still get; another number is another subscription.
		expectGive(t, b, 4, second, api.OK)
		mustSubscribe(t, b, board.Who{Node: 4, Sub: 2}, "price in 3..9")
		expectDue(t, b, 2, 1, board.Who{Node: 4, Sub: 2})
		if t.Failed() {
			t.Fatalf("by %s", name)
		}
	}
}

// P18.1: Same looks at each value, at each of its kinds, and at the payload.
func TestSame(t *testing.T) {
	e := value.Event{Values: []value.Value{{Num: 5}, {Str: "abc"}}, Payload: "p"}
	for _, a := range []value.Event{
		{},
		{Payload: "p"},
		{Values: []value.Value{{Num: 5}}, Payload: "p"},
		{Values: []value.Value{{Num: 5}, {Str: "abc"}, {}}, Payload: "p"},
		{Values: []value.Value{{Num: 6}, {Str: "abc"}}, Payload: "p"},
		{Values: []value.Value{{Num: 5 + 1<<32}, {Str: "abc"}}, Payload: "p"},
		{Values: []value.Value{{Num: -5}, {Str: "abc"}}, Payload: "p"},
		{Values: []value.Value{{Num: 5}, {Str: "ab"}}, Payload: "p"},
		{Values: []value.Value{{Num: 5}, {Str: "abd"}}, Payload: "p"},
		{Values: []value.Value{{Num: 5}, {Num: 1, Str: "abc"}}, Payload: "p"},
		{Values: []value.Value{{Num: 5, Str: "5"}, {Str: "abc"}}, Payload: "p"},
		{Values: []value.Value{{Str: "abc"}, {Num: 5}}, Payload: "p"},
		{Values: []value.Value{{Num: 5}, {Str: "abc"}}},
		{Values: []value.Value{{Num: 5}, {Str: "abc"}}, Payload: "P"},
		{Values: []value.Value{{Num: 5}, {Str: "abc"}}, Payload: "p\x00"},
		{Values: []value.Value{{Num: 5}, {Str: "abcp"}}},
	} {
		if board.Same(a, e) || board.Same(e, a) || !board.Same(a, a) || !board.Same(a, copied(a)) {
			t.Errorf("Same of %v and %v", a, e)
		}
	}
	if !board.Same(e, e) || !board.Same(e, copied(e)) || !board.Same(value.Event{}, value.Event{Values: []value.Value{}}) {
		t.Error("Same of what is the same")
	}
}

// P18.1: each refusal of Give alone, and the first one where several would be.
func TestGive(t *testing.T) {
	b := newBoard(t)
	takes, doesnt, stale := board.Who{Node: 3, Sub: 1}, board.Who{Node: 3, Sub: 2}, board.Who{Node: 3, Sub: 3}
	mustSubscribe(t, b, takes, "price in 3..9")
	mustSubscribe(t, b, doesnt, "price in 4..4")
	mustPublish(t, b, 2, 1, sale(5, "a"))
	mustPublish(t, b, 2, 2, sale(6, "a"))
	give := func(seq int, w board.Who, e value.Event, want api.Code) {
		t.Helper()
		expectGive(t, b, w.Node, node.Delivery{Sub: w.Sub, Pub: 2, Seq: seq, Event: e}, want)
	}
	right, wrong := sale(5, "a"), sale(4, "a")
	give(1, takes, right, api.OK)
	give(1, takes, right, api.ErrBusy)
	give(1, doesnt, right, api.ErrSchema)
	give(1, stale, right, api.ErrStale)
	give(1, takes, sale(7, "a"), api.ErrForm)
	give(3, takes, right, api.ErrNone)
	// None ahead of all others.
	give(3, takes, wrong, api.ErrNone)
	give(3, doesnt, wrong, api.ErrNone)
	give(3, stale, value.Event{}, api.ErrNone)
	// Form ahead of Stale, of Schema and of Busy: also of what the subscription would take.
	give(1, stale, wrong, api.ErrForm)
	give(1, doesnt, wrong, api.ErrForm)
	give(1, takes, wrong, api.ErrForm)
	give(1, takes, sale(6, "a"), api.ErrForm)
	give(1, takes, value.Event{}, api.ErrForm)
	// Stale ahead of Schema and Busy: of what doesn't take it and goes, of what got it and goes.
	b.Unsubscribe(doesnt)
	give(1, doesnt, right, api.ErrStale)
	b.Unsubscribe(takes)
	give(1, takes, right, api.ErrStale)
	// Schema ahead of Busy: it got it, and doesn't take it any more.
	mustSubscribe(t, b, takes, "price in 6..9")
	give(1, takes, right, api.ErrSchema)
	// Of other nodes and publishers nothing stands there.
	expectGive(t, b, 1, node.Delivery{Sub: 3, Pub: 2, Seq: 2, Event: sale(6, "a")}, api.ErrStale)
	expectGive(t, b, 3, node.Delivery{Sub: 1, Pub: 1, Seq: 2, Event: sale(6, "a")}, api.ErrNone)
	expectGive(t, b, 3, node.Delivery{Sub: 1, Pub: 2, Seq: 2, Event: sale(6, "a")}, api.OK)
}

// P18.2: each subscription, and each event, by itself.
func TestGiveEachToEach(t *testing.T) {
	b := newBoard(t)
	all := named([]int{math.MinInt, -1, 0, 1, math.MaxInt}, []int{math.MinInt, -1, 0, 1, math.MaxInt})
	ints := []int{math.MinInt, -1, 0, 1, math.MaxInt}
	for _, w := range all {
		mustSubscribe(t, b, w, "price in 3..9")
	}
	for _, pub := range ints {
		for _, seq := range ints {
			mustPublish(t, b, pub, seq, sale(5, "a"))
		}
	}
	for _, pub := range ints {
		for _, seq := range ints {
			for i, w := range all {
				expectDue(t, b, pub, seq, all[i:]...)
				d := node.Delivery{Sub: w.Sub, Pub: pub, Seq: seq, Event: sale(5, "a")}
				expectGive(t, b, w.Node, d, api.OK)
				expectGive(t, b, w.Node, d, api.ErrBusy)
			}
			expectDue(t, b, pub, seq)
		}
	}
}

// P18.1: Due of no such event; beside it there is no list.
func TestDueNone(t *testing.T) {
	b := newBoard(t)
	mustPublish(t, b, 1, 2, sale(5, "a"))
	mustSubscribe(t, b, board.Who{}, "price in 3..9")
	for _, c := range [][2]int{{2, 1}, {1, 1}, {2, 2}, {0, 0}, {math.MinInt, math.MaxInt}} {
		l, err := b.Due(c[0], c[1])
		expectCode(t, "Due", err, api.ErrNone)
		if len(l) != 0 {
			t.Errorf("Due%v: %v", c, l)
		}
	}
}

// P2: what is handed in is neither changed nor kept, and what is answered is the caller's.
func TestNothingIsShared(t *testing.T) {
	s := shop()
	b, err := board.New(s)
	if err != nil {
		t.Fatal(err)
	}
	s[0] = value.Attr{Name: "other", Kind: value.Text}
	e := sale(5, "a")
	mustPublish(t, b, 1, 1, e)
	e.Values[0].Num, e.Values[1].Str = 50, "b"
	mustSubscribe(t, b, board.Who{Node: 1, Sub: 1}, "price in 3..9")
	l, _ := b.Due(1, 1)
	again, _ := b.Due(1, 1)
	if len(l) != 1 || len(again) != 1 {
		t.Fatalf("due: %v, %v", l, again)
	}
	l[0] = board.Who{Node: 9, Sub: 9}
	if again[0] != (board.Who{Node: 1, Sub: 1}) {
		t.Errorf("two answers are one: %v", again)
	}
	expectDue(t, b, 1, 1, board.Who{Node: 1, Sub: 1})
	expectGive(t, b, 1, node.Delivery{Sub: 1, Pub: 1, Seq: 1, Event: e}, api.ErrForm)
	d := node.Delivery{Sub: 1, Pub: 1, Seq: 1, Event: sale(5, "a")}
	expectGive(t, b, 1, d, api.OK)
	d.Event.Values[0].Num = 7
	expectGive(t, b, 1, d, api.ErrForm)
	if d.Event.Values[0].Num != 7 || d.Event.Values[1].Str != "a" {
		t.Errorf("Give changed %v", d)
	}
}

// P18.1: two boards are two.
func TestTwoBoards(t *testing.T) {
	a, b := newBoard(t), newBoard(t)
	mustPublish(t, a, 1, 1, sale(5, "a"))
	mustSubscribe(t, a, board.Who{}, "price in 3..9")
	mustPublish(t, b, 1, 1, sale(5, "a"))
	mustSubscribe(t, b, board.Who{}, "price in 3..9")
	d := node.Delivery{Pub: 1, Seq: 1, Event: sale(5, "a")}
	expectGive(t, a, 0, d, api.OK)
	expectDue(t, b, 1, 1, board.Who{})
	expectGive(t, b, 0, d, api.OK)
}
