package script_test

import (
	"fmt"
	"slices"
	"testing"

	"wigwag/api"
	"wigwag/board"
	"wigwag/script"
	"wigwag/value"
)

// asked is a subscription that is there.
type asked struct {
	who  board.Who
	wish wish
}

// told is what tells events apart.
type told struct {
	pub, seq int
}

// got is an event that a subscription got.
type got struct {
	who   board.Who
	event told
}

// lists is the bulletin told a second time, by plain lists, from the steps and their results alone.
type lists struct {
	s      value.Schema
	wishes map[string]wish // by their texts
	events map[told]value.Event
	subs   []asked
	given  map[got]int
}

func newLists(s value.Schema) lists {
	return lists{s: s, wishes: map[string]wish{}, events: map[told]value.Event{}, given: map[got]int{}}
}

// text: of a wish, which is known by it from then on.
func (l *lists) text(w wish) string {
	text := w.text(l.s)
	l.wishes[text] = w
	return text
}

// note: what a step that was done has brought about.
func (l *lists) note(t *testing.T, x script.Step, r script.Result) {
	t.Helper()
	switch x.Kind {
	case script.Leave, script.Crash:
		l.subs = slices.DeleteFunc(l.subs, func(a asked) bool { return a.who.Node == x.Node })
	case script.Subscribe:
		w, known := l.wishes[x.Text]
		if !known {
			t.Fatalf("%q is a filter", x.Text)
		}
		l.subs = append(l.subs, asked{board.Who{Node: x.Node, Sub: r.N}, w})
	case script.Unsubscribe:
		l.subs = slices.DeleteFunc(l.subs, func(a asked) bool { return a.who == board.Who{Node: x.Node, Sub: x.N} })
	case script.Publish:
		l.events[told{x.Node, r.N}] = value.Event{Values: slices.Clone(x.Event.Values), Payload: x.Event.Payload}
	case script.Poll:
		l.polled(t, x.Node, r)
	}
}

// polled: P19.2: each delivery is of an event that was published so, for a subscription that is there, and takes it, and comes once.
func (l *lists) polled(t *testing.T, n int, r script.Result) {
	t.Helper()
	for _, d := range r.Got {
		e, here := l.events[told{d.Pub, d.Seq}]
		if !here || fmt.Sprint(e) != fmt.Sprint(d.Event) {
			t.Fatalf("%d got %v, which was published as %v, %v", n, d, e, here)
		}
		who := board.Who{Node: n, Sub: d.Sub}
		at := slices.IndexFunc(l.subs, func(a asked) bool { return a.who == who })
		if at < 0 || !l.subs[at].wish.takes(l.s, e) {
			t.Fatalf("%d got %v, which wasn't asked for", n, d)
		}
		key := got{who, told{d.Pub, d.Seq}}
		if l.given[key]++; l.given[key] > 1 {
			t.Fatalf("%d got %v twice", n, d)
		}
	}
}

// due: who takes an event, and didn't get it.
func (l *lists) due(e told) ([]board.Who, api.Code) {
	ev, here := l.events[e]
	if !here {
		return nil, api.ErrNone
	}
	var who []board.Who
	for _, a := range l.subs {
		if a.wish.takes(l.s, ev) && l.given[got{a.who, e}] == 0 {
			who = append(who, a.who)
		}
	}
	slices.SortFunc(who, func(a, b board.Who) int {
		if a.Node != b.Node {
			return a.Node - b.Node
		}
		return a.Sub - b.Sub
	})
	return who, api.OK
}
