package board_test

import (
	"errors"
	"fmt"
	"slices"
	"sort"
	"testing"

	"wigwag/api"
	"wigwag/board"
	"wigwag/filter"
	"wigwag/node"
	"wigwag/value"
)

// told is an event that was published.
type told struct {
	pub, seq int
	e        value.Event
}

// asked is a subscription that stands there.
type asked struct {
	who  board.Who
	wish wish
}

// got is an event that a subscription got.
type got struct {
	who      board.Who
	pub, seq int
}

// lists is the chapter told a second time: plain lists of what stands on the board.
type lists struct {
	s      value.Schema
	events []told
	subs   []asked
	given  []got
}

func (l *lists) event(pub, seq int) int {
	return slices.IndexFunc(l.events, func(x told) bool { return x.pub == pub && x.seq == seq })
}

func (l *lists) sub(w board.Who) int {
	return slices.IndexFunc(l.subs, func(x asked) bool { return x.who == w })
}

func same(a, b value.Event) bool {
	if len(a.Values) != len(b.Values) {
		return false
	}
	for i := range a.Values {
		if a.Values[i].Num != b.Values[i].Num || a.Values[i].Str != b.Values[i].Str {
			return false
		}
	}
	return a.Payload == b.Payload
}

func copied(e value.Event) value.Event {
	return value.Event{Values: append([]value.Value(nil), e.Values...), Payload: e.Payload}
}

func (l *lists) publish(pub, seq int, e value.Event) error {
	if err := l.s.Event(e); err != nil {
		return err
	}
	if l.event(pub, seq) >= 0 {
		return api.ErrBusy
	}
	l.events = append(l.events, told{pub, seq, copied(e)})
	return nil
}

// subscribe: by the text, which the wish tells, if it is right.
func (l *lists) subscribe(w board.Who, text string, x wish) error {
	if _, err := filter.Read(l.s, text); err != nil {
		return err
	}
	if l.sub(w) >= 0 {
		return api.ErrBusy
	}
	l.subs = append(l.subs, asked{w, x})
	return nil
}

func (l *lists) unsubscribe(w board.Who) error {
	at := l.sub(w)
	if at < 0 {
		return api.ErrNone
	}
	l.subs = slices.Delete(l.subs, at, at+1)
	return nil
}

func (l *lists) gone(n int) int {
	before := len(l.subs)
	l.subs = slices.DeleteFunc(l.subs, func(x asked) bool { return x.who.Node == n })
	return before - len(l.subs)
}

// may: what Give answers.
func (l *lists) may(n int, d node.Delivery) api.Code {
	at := l.event(d.Pub, d.Seq)
	if at < 0 {
		return api.ErrNone
	}
	e := l.events[at].e
	if !same(e, d.Event) {
		return api.ErrForm
	}
	w := board.Who{Node: n, Sub: d.Sub}
	to := l.sub(w)
	if to < 0 {
		return api.ErrStale
	}
	if !l.subs[to].wish.takes(l.s, e) {
		return api.ErrSchema
	}
	if slices.Contains(l.given, got{w, d.Pub, d.Seq}) {
		return api.ErrBusy
	}
	return api.OK
}

func (l *lists) give(n int, d node.Delivery) api.Code {
	c := l.may(n, d)
	if c == api.OK {
		l.given = append(l.given, got{board.Who{Node: n, Sub: d.Sub}, d.Pub, d.Seq})
	}
	return c
}

func (l *lists) due(pub, seq int) ([]board.Who, api.Code) {
	at := l.event(pub, seq)
	if at < 0 {
		return nil, api.ErrNone
	}
	var who []board.Who
	for _, x := range l.subs {
		if x.wish.takes(l.s, l.events[at].e) && !slices.Contains(l.given, got{x.who, pub, seq}) {
			who = append(who, x.who)
		}
	}
	sort.Slice(who, func(i, j int) bool {
		if who[i].Node != who[j].Node {
			return who[i].Node < who[j].Node
		}
		return who[i].Sub < who[j].Sub
	})
	return who, api.OK
}

// faults: an error's code, and the At of each Fault in it, the outermost first; as a text, so that two of them are held against each other at once.
func faults(err error) string {
	text := api.Of(err).Error()
	var f *api.Fault
	for errors.As(err, &f) {
		text += fmt.Sprint(" at ", f.At)
		err = f.Err
	}
	return text
}

// both is a board, and the lists that it is held against.
type both struct {
	t    *testing.T
	d    draw
	b    *board.Board
	l    lists
	pubs []int
	seqs []int
	whos []board.Who
	met  map[string]int
}

// spoil: what was handed in, and the room behind it, is no longer what it was.
func spoil(e value.Event) {
	l := e.Values[:cap(e.Values)]
	for i := range l {
		l[i] = value.Value{Num: -77, Str: "spoilt"}
	}
}

func newBoth(t *testing.T, d draw, met map[string]int) *both {
	t.Helper()
	s := d.schema()
	handed := slices.Clone(s)
	b, err := board.New(handed)
	if err != nil || b == nil {
		t.Fatalf("New(%v): %v, %v", s, b, err)
	}
	if !slices.Equal(handed, s) {
		t.Fatalf("New: the schema is %v", handed)
	}
	for i := range handed {
		handed[i] = value.Attr{Name: "spoilt", Kind: value.Text}
	}
	x := &both{t: t, d: d, b: b, l: lists{s: s}, pubs: d.ints(1 + d.Intn(3)), seqs: d.ints(1 + d.Intn(4)), met: met}
	x.whos = named(d.ints(1+d.Intn(4)), d.ints(1+d.Intn(4)))
	return x
}

func (x *both) expect(what string, err, want error) {
	x.t.Helper()
	if faults(err) != faults(want) {
		x.t.Fatalf("%s: %s, not %s", what, faults(err), faults(want))
	}
}

func (x *both) count(what string, err error) { x.met[what+" "+api.Of(err).Error()]++ }

func (x *both) publish() {
	x.t.Helper()
	pub, seq, e := one(x.d, x.pubs), one(x.d, x.seqs), x.d.event(x.l.s)
	if x.d.Intn(6) == 0 {
		e = x.d.wrongEvent(x.l.s)
	}
	want := x.l.publish(pub, seq, e)
	before := fmt.Sprint(e.Values[:cap(e.Values)])
	err := x.b.Publish(pub, seq, e)
	x.expect(fmt.Sprint("Publish ", pub, seq, e), err, want)
	if fmt.Sprint(e.Values[:cap(e.Values)]) != before {
		x.t.Fatalf("Publish changed %s into %v", before, e)
	}
	spoil(e)
	x.count("publish", err)
}

func (x *both) subscribe() {
	x.t.Helper()
	w, wish := one(x.d, x.whos), x.d.wish(x.l.s)
	text := wish.text(x.l.s)
	if x.d.Intn(8) == 0 {
		text = x.d.wrongText(x.l.s)
		if _, err := filter.Read(x.l.s, text); err == nil {
			return
		}
	}
	again := slices.ContainsFunc(x.l.given, func(g got) bool { return g.who == w })
	want := x.l.subscribe(w, text, wish)
	err := x.b.Subscribe(w, text)
	x.expect(fmt.Sprint("Subscribe ", w, text), err, want)
	x.count("subscribe", err)
	if again && err == nil {
		x.met["made again"]++
	}
}

func (x *both) unsubscribe() {
	x.t.Helper()
	w := one(x.d, x.whos)
	want := x.l.unsubscribe(w)
	err := x.b.Unsubscribe(w)
	x.expect(fmt.Sprint("Unsubscribe ", w), err, want)
	x.count("unsubscribe", err)
}

func (x *both) gone() {
	x.t.Helper()
	n := one(x.d, x.whos).Node
	if x.d.Intn(4) == 0 {
		n = one(x.d, x.d.ints(3))
	}
	want := x.l.gone(n)
	if n := x.b.Gone(n); n != want {
		x.t.Fatalf("Gone: %d, not %d", n, want)
	}
	x.met[fmt.Sprint("gone ", min(want, 2))]++
}

// delivery: often of what stands there.
func (x *both) delivery() (int, node.Delivery) {
	w := one(x.d, x.whos)
	if x.d.Intn(12) == 0 {
		w = board.Who{Node: w.Sub, Sub: w.Node}
	}
	d := node.Delivery{Sub: w.Sub, Pub: one(x.d, x.pubs), Seq: one(x.d, x.seqs)}
	if x.d.Intn(12) == 0 {
		d.Pub, d.Seq = d.Seq, d.Pub
	}
	at := x.l.event(d.Pub, d.Seq)
	switch {
	case at < 0 && x.d.Intn(2) == 0 && len(x.l.events) > 0:
		// The event of another publisher or number.
		d.Event = copied(one(x.d, x.l.events).e)
	case at < 0:
		d.Event = x.d.event(x.l.s)
	case x.d.Intn(6) == 0:
		d.Event = x.d.other(x.l.events[at].e)
	default:
		d.Event = copied(x.l.events[at].e)
	}
	return w.Node, d
}

func (x *both) give() {
	x.t.Helper()
	n, d := x.delivery()
	want := x.l.give(n, d)
	before := fmt.Sprint(d)
	err := x.b.Give(n, d)
	if api.Of(err) != want {
		x.t.Fatalf("Give(%d, %v): %v, not %v", n, d, err, want)
	}
	if fmt.Sprint(d) != before {
		x.t.Fatalf("Give changed %s into %v", before, d)
	}
	spoil(d.Event)
	x.count("give", err)
}

func (x *both) due(pub, seq int) {
	x.t.Helper()
	want, code := x.l.due(pub, seq)
	// Asked twice: no order of a map shows, and what was answered is the caller's.
	for range 2 {
		l, err := x.b.Due(pub, seq)
		if api.Of(err) != code || !slices.Equal(l, want) {
			x.t.Fatalf("Due(%d, %d): %v, %v, not %v, %v", pub, seq, l, err, want, code)
		}
		for i := range l {
			l[i] = board.Who{Node: -77, Sub: -77}
		}
		x.count("due", err)
		x.met[fmt.Sprint("due ", min(len(l), 3))]++
	}
}

// look: all that stands on the board, by calls that change nothing.
func (x *both) look() {
	x.t.Helper()
	for _, pub := range x.pubs {
		for _, seq := range x.seqs {
			x.due(pub, seq)
			x.lookAt(pub, seq)
		}
	}
}

// lookAt: to each subscription, also to those that aren't there, one event is given, where it is refused; Due tells the others.
func (x *both) lookAt(pub, seq int) {
	x.t.Helper()
	d := node.Delivery{Pub: pub, Seq: seq}
	if at := x.l.event(pub, seq); at >= 0 {
		d.Event = x.l.events[at].e
	}
	for _, w := range x.whos {
		d.Sub = w.Sub
		want := x.l.may(w.Node, d)
		if want == api.OK {
			continue
		}
		if err := x.b.Give(w.Node, d); api.Of(err) != want {
			x.t.Fatalf("Give(%d, %v): %v, not %v", w.Node, d, err, want)
		}
	}
}

// step: any call.
func (x *both) step() {
	x.t.Helper()
	switch x.d.Intn(12) {
	case 0, 1:
		x.publish()
	case 2, 3, 4:
		x.subscribe()
	case 5:
		x.unsubscribe()
	case 6:
		x.gone()
	case 7, 8, 9, 10:
		x.give()
	default:
		x.due(one(x.d, x.pubs), one(x.d, x.seqs))
	}
}
