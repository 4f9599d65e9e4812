package script_test

import (
	"errors"
	"fmt"
	"slices"
	"testing"

	"wigwag/api"
	"wigwag/board"
	"wigwag/node"
	"wigwag/script"
)

// P19.1: what a board refuses on which something stands that no step put there: ErrForm, with a Fault that tells the board's code; beside it is what the world answered.
func TestWhatTheBoardRefuses(t *testing.T) {
	e := sale(5, "x")
	who := board.Who{Node: 1, Sub: 1}
	for _, c := range []struct {
		name  string
		spoil func(b *board.Board) error // behind the first steps
		x     script.Step
		want  script.Result
		at    api.Code
	}{
		{"nothing", func(b *board.Board) error { return nil }, subscribe(1, "price in 3..9"), number(2), api.OK},
		{"such a subscription", func(b *board.Board) error { return b.Subscribe(board.Who{Node: 1, Sub: 2}, "price in 0..9") }, subscribe(1, "price in 3..9"), number(2), api.ErrBusy},
		{"no such subscription", func(b *board.Board) error { return b.Unsubscribe(who) }, of(script.Unsubscribe, 1, 1), number(0), api.ErrNone},
		{"such an event", func(b *board.Board) error { return b.Publish(2, 2, e) }, publish(2, e), number(2), api.ErrBusy},
		{"a subscription that isn't there", func(b *board.Board) error { return b.Unsubscribe(who) }, of(script.Poll, 1, 9), script.Result{Got: []node.Delivery{{Sub: 1, Pub: 2, Seq: 1, Event: e}}}, api.ErrStale},
		{"another filter", func(b *board.Board) error { return errors.Join(b.Unsubscribe(who), b.Subscribe(who, "price in 6..9")) }, of(script.Poll, 1, 9), script.Result{Got: []node.Delivery{{Sub: 1, Pub: 2, Seq: 1, Event: e}}}, api.ErrSchema},
		{"what it got", func(b *board.Board) error { return b.Give(1, node.Delivery{Sub: 1, Pub: 2, Seq: 1, Event: e}) }, of(script.Poll, 1, 9), script.Result{Got: []node.Delivery{{Sub: 1, Pub: 2, Seq: 1, Event: e}}}, api.ErrBusy},
	} {
		show := founded(t, shop(), 3, quarters)
		done(t, show, join(4, 1, 0))
		does(t, show, subscribe(1, "price in 3..9"), number(1))
		does(t, show, calm, number(1))
		does(t, show, publish(2, e), number(1))
		does(t, show, calm, number(1))
		if err := c.spoil(show.Board()); err != nil {
			t.Fatal(err)
		}
		l, err := show.Play([]script.Step{settle, c.x, of(script.Crash, 4, 0), of(script.Crash, 4, 0)})
		checkRefusal(t, c.name, err, c.at)
		want := []script.Result{number(1), c.want}
		if c.at == api.OK {
			want = append(want, script.Result{}, script.Result{Code: api.ErrDead})
		}
		if fmt.Sprint(l) != fmt.Sprint(want) {
			t.Errorf("%s: %v; not %v", c.name, l, want)
		}
		// Behind the step with an error nothing was played.
		if slices.Contains(show.Live(), 4) != (c.at != api.OK) {
			t.Errorf("%s: Live: %v", c.name, show.Live())
		}
	}
}

// checkRefusal: what the board refused.
func checkRefusal(t *testing.T, name string, err error, at api.Code) {
	t.Helper()
	if at == api.OK {
		if err != nil {
			t.Errorf("%s: %v", name, err)
		}
		return
	}
	var f *api.Fault
	if api.Of(err) != api.ErrForm || !errors.As(err, &f) || f.At != int(at) || err.Error() == "" {
		t.Errorf("%s: %v: %+v; not %v", name, err, f, at)
	}
}

// P19.1: of several deliveries that the board refuses the last one's code is told; all that it doesn't refuse are given, also behind these.
func TestSeveralRefusals(t *testing.T) {
	for _, c := range []struct {
		gone []int // subscriptions that aren't on the board
		has  []int // those that got the event
		at   api.Code
	}{{nil, nil, api.OK}, {[]int{1}, []int{2}, api.ErrBusy}, {[]int{2}, []int{1}, api.ErrStale}, {[]int{1, 2}, nil, api.ErrStale}, {[]int{2}, []int{1, 3}, api.ErrBusy}, {nil, []int{1}, api.ErrBusy}} {
		show := founded(t, shop(), 3, quarters)
		for i := range 4 {
			does(t, show, subscribe(1, "price in 3..9"), number(i+1))
		}
		does(t, show, calm, number(1))
		does(t, show, publish(2, sale(5, "x")), number(1))
		does(t, show, calm, number(1))
		for _, id := range c.has {
			if err := show.Board().Give(1, node.Delivery{Sub: id, Pub: 2, Seq: 1, Event: sale(5, "x")}); err != nil {
				t.Fatal(err)
			}
		}
		for _, id := range c.gone {
			if err := show.Board().Unsubscribe(board.Who{Node: 1, Sub: id}); err != nil {
				t.Fatal(err)
			}
		}
		r, err := show.Do(of(script.Poll, 1, 9))
		checkRefusal(t, fmt.Sprint(c), err, c.at)
		if len(r.Got) != 4 || r.Code != api.OK {
			t.Errorf("%v: %v", c, r)
		}
		isDue(t, show, 2, 1)
	}
}

// P19.1: Play of no step, and of steps that are refused: these stop nothing.
func TestPlay(t *testing.T) {
	show := founded(t, shop(), 3, tens)
	for _, l := range [][]script.Step{nil, {}} {
		if r, err := show.Play(l); err != nil || len(r) != 0 {
			t.Errorf("Play of no step: %v, %v", r, err)
		}
	}
	l := []script.Step{{}, of(script.Crash, 9, 0), subscribe(1, "price in"), subscribe(1, "price in 3..9"), of(script.Deliver, 0, 3), publish(9, sale(5, "")), publish(0, sale(5, "")), {Kind: 77}}
	want := []script.Result{{Code: api.ErrArg}, {Code: api.ErrDead}, {Code: api.ErrParse}, {N: 1}, {Code: api.ErrNone}, {Code: api.ErrDead}, {N: 1}, {Code: api.ErrArg}}
	r, err := show.Play(l)
	if err != nil || fmt.Sprint(r) != fmt.Sprint(want) {
		t.Errorf("Play: %v, %v; not %v", r, err, want)
	}
	isDue(t, show, 0, 1, board.Who{Node: 1, Sub: 1})
	hasSubs(t, show, 1)
}
