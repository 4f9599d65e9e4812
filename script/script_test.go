package script_test

import (
	"errors"
	"fmt"
	"math"
	"slices"
	"strings"
	"testing"

	"wigwag/api"
	"wigwag/board"
	"wigwag/group"
	"wigwag/node"
	"wigwag/script"
	"wigwag/value"
)

var (
	quarters = []api.Id{1 << 62, 2 << 62, 3 << 62, 0}
	tens     = []api.Id{10, 20, 30, 40}
)

func founded(t *testing.T, s value.Schema, levels int, ids []api.Id) *script.Show {
	t.Helper()
	show, err := script.New(s, levels, ids)
	if err != nil || show == nil {
		t.Fatalf("New(%v, %d, %v): %v", s, levels, ids, err)
	}
	return show
}

// does: a step's result.
func does(t *testing.T, show *script.Show, x script.Step, want script.Result) {
	t.Helper()
	r, err := show.Do(x)
	if err != nil || fmt.Sprint(r) != fmt.Sprint(want) {
		t.Errorf("Do(%v): %v, %v; not %v", x, r, err, want)
	}
}

// done: a step that is done, of which nothing else is told.
func done(t *testing.T, show *script.Show, l ...script.Step) {
	t.Helper()
	for _, x := range l {
		does(t, show, x, script.Result{})
	}
}

// refused: a step's code, with nothing else; it changes nothing that is to be seen.
func refused(t *testing.T, show *script.Show, x script.Step, want api.Code) {
	t.Helper()
	live, subs := show.Live(), show.Subs()
	does(t, show, x, script.Result{Code: want})
	if !slices.Equal(show.Live(), live) || show.Subs() != subs {
		t.Errorf("Do(%v): %v live, %d subscriptions; not %v, %d", x, show.Live(), show.Subs(), live, subs)
	}
}

func isDue(t *testing.T, show *script.Show, pub, seq int, want ...board.Who) {
	t.Helper()
	if who, err := show.Due(pub, seq); err != nil || !slices.Equal(who, want) {
		t.Errorf("Due(%d, %d): %v, %v; not %v", pub, seq, who, err, want)
	}
}

func isOpen(t *testing.T, show *script.Show, n int, want ...int) {
	t.Helper()
	if open, err := show.Open(n); err != nil || !slices.Equal(open, want) {
		t.Errorf("Open(%d): %v, %v; not %v", n, open, err, want)
	}
}

func hasSubs(t *testing.T, show *script.Show, want int) {
	t.Helper()
	if n := show.Subs(); n != want {
		t.Errorf("Subs: %d, not %d", n, want)
	}
}

func join(n int, id api.Id, via int) script.Step {
	return script.Step{Kind: script.Join, Node: n, Id: id, N: via}
}

func subscribe(n int, text string) script.Step {
	return script.Step{Kind: script.Subscribe, Node: n, Text: text}
}

func publish(n int, e value.Event) script.Step {
	return script.Step{Kind: script.Publish, Node: n, Event: e}
}

// of: a step of a kind, with a node and a number.
func of(kind, n, number int) script.Step {
	return script.Step{Kind: kind, Node: n, N: number}
}

var (
	tick   = script.Step{Kind: script.Tick}
	settle = script.Step{Kind: script.Settle}
	calm   = script.Step{Kind: script.Calm}
)

// number: a result with just this number.
func number(n int) script.Result { return script.Result{N: n} }

// P19.1: the kinds are these numbers.
func TestKinds(t *testing.T) {
	all := []int{script.Join, script.Leave, script.Crash, script.Subscribe, script.Unsubscribe, script.Publish, script.Poll, script.Tick, script.Deliver, script.Drop, script.Copy, script.Settle, script.Calm}
	for i, k := range all {
		if k != i+1 {
			t.Errorf("kind %d is %d", i+1, k)
		}
	}
}

// P19.1: New answers world.New's errors, and no show beside them.
func TestNew(t *testing.T) {
	bad := value.Schema{{Name: "a", Kind: value.Text}, {Name: "in", Kind: value.Text}}
	many := append(numbers(7), value.Attr{Name: "e", Kind: value.Text})
	for i, c := range []struct {
		s      value.Schema
		levels int
		ids    []api.Id
		want   api.Code
		at     int
	}{
		{shop(), -1, tens, api.ErrArg, 0}, {shop(), 9, tens, api.ErrArg, 0}, {shop(), math.MinInt, tens, api.ErrArg, 0}, {shop(), math.MaxInt, tens, api.ErrArg, 0},
		{nil, 3, tens, api.ErrSchema, 0}, {value.Schema{}, 3, tens, api.ErrSchema, 0}, {many, 3, tens, api.ErrSchema, 0}, {bad, 3, tens, api.ErrSchema, 1},
		{shop(), 3, nil, api.ErrArg, 0}, {shop(), 3, tens[:3], api.ErrArg, 0}, {shop(), 3, []api.Id{1, 2, 3, 4, 5}, api.ErrArg, 0}, {shop(), 3, []api.Id{1, 2, 3, 1}, api.ErrCollision, 0},
		{bad, 9, nil, api.ErrArg, 0}, {bad, 8, nil, api.ErrSchema, 1}, {bad, 0, []api.Id{1, 1, 1, 1}, api.ErrSchema, 1},
	} {
		show, err := script.New(c.s, c.levels, c.ids)
		if show != nil || !errors.Is(err, c.want) || api.Of(err) != c.want {
			t.Errorf("New %d: %v, %v; not %v", i, show != nil, err, c.want)
		}
		var f *api.Fault
		if c.want == api.ErrSchema && (!errors.As(err, &f) || f.At != c.at) {
			t.Errorf("New %d: %v, not at %d", i, err, c.at)
		}
	}
	for _, levels := range []int{0, 1, 8} {
		show := founded(t, shop(), levels, tens)
		if !slices.Equal(show.Live(), []int{0, 1, 2, 3}) {
			t.Errorf("Live: %v", show.Live())
		}
		hasSubs(t, show, 0)
		if _, err := show.Due(0, 1); !errors.Is(err, api.ErrNone) {
			t.Errorf("Due: %v", err)
		}
	}
}

// P19.1, P19.3: the chapter's example.
func TestExample(t *testing.T) {
	for levels := range 9 {
		for _, ids := range [][]api.Id{tens, quarters, {math.MaxUint64, 0, 1, 2}} {
			show := founded(t, shop(), levels, ids)
			five := sale(5, "x")
			does(t, show, subscribe(0, "price in 3..9"), number(1))
			does(t, show, calm, number(1))
			does(t, show, publish(2, five), number(1))
			isDue(t, show, 2, 1, board.Who{Node: 0, Sub: 1})
			does(t, show, calm, number(1))
			does(t, show, of(script.Poll, 0, 9), script.Result{Got: []node.Delivery{{Sub: 1, Pub: 2, Seq: 1, Event: five}}})
			isDue(t, show, 2, 1)
			isOpen(t, show, 2)
			done(t, show, of(script.Poll, 0, 9))
		}
	}
}

// P19.1, P19.2, P19.3: DOC.md's ten examples of the whole, as one script.
func TestExamplesOfTheWhole(t *testing.T) {
	show := founded(t, shop(), 3, tens)
	// 1, 2: node 0 is the root itself: nearly all places are its own. So 1 asks, too, by way of 2 and 3.
	does(t, show, subscribe(0, "price in 3..9"), number(1))
	does(t, show, subscribe(1, "price in 3..9"), number(1))
	for range 4 {
		done(t, show, tick)
		does(t, show, settle, number(1))
	}
	// 3, 4, 5: all packets of a tick are lost, those of the next one doubled.
	does(t, show, publish(2, sale(5, "x")), number(1))
	isOpen(t, show, 2, 1)
	isDue(t, show, 2, 1, board.Who{Node: 0, Sub: 1}, board.Who{Node: 1, Sub: 1})
	done(t, show, tick)
	for code := api.OK; code == api.OK; {
		r, err := show.Do(script.Step{Kind: script.Drop})
		if code = r.Code; err != nil {
			t.Fatal(err)
		}
	}
	done(t, show, tick)
	for i := range 20 {
		done(t, show, of(script.Copy, 0, 2*i))
	}
	does(t, show, settle, number(1))
	for n := range 2 {
		does(t, show, of(script.Poll, n, 9), script.Result{Got: []node.Delivery{{Sub: 1, Pub: 2, Seq: 1, Event: sale(5, "x")}}})
	}
	isOpen(t, show, 2)
	isDue(t, show, 2, 1)
	// 6, 7, 8.
	done(t, show, join(7, 25, 1))
	if !slices.Equal(show.Live(), []int{0, 1, 2, 3, 7}) {
		t.Errorf("Live: %v", show.Live())
	}
	refused(t, show, of(script.Crash, 0, 0), api.ErrBusy)
	refused(t, show, of(script.Crash, 9, 0), api.ErrDead)
	refused(t, show, join(7, 30, 1), api.ErrAddrUsed)
	refused(t, show, join(8, 25, 1), api.ErrCollision)
	// 9.
	refused(t, show, subscribe(0, "price in 9..3"), api.ErrSchema)
	refused(t, show, subscribe(0, "price in"), api.ErrParse)
	hasSubs(t, show, 2)
	refused(t, show, of(0, 0, 0), api.ErrArg)
}

// P19.3: DOC.md's tenth example: a node that lay on the ways crashes; the tree goes round it.
func TestExampleOfACrash(t *testing.T) {
	show := founded(t, shop(), 0, quarters)
	done(t, show, join(7, group.Key("price.0.0"), 1))
	for n := range 4 {
		does(t, show, subscribe(n, "price in 3..9"), number(1))
	}
	does(t, show, calm, number(1))
	does(t, show, publish(0, sale(3, "")), number(1))
	does(t, show, calm, number(1))
	isDue(t, show, 0, 1, board.Who{Node: 0, Sub: 1}, board.Who{Node: 1, Sub: 1}, board.Who{Node: 2, Sub: 1}, board.Who{Node: 3, Sub: 1})
	done(t, show, of(script.Crash, 7, 0))
	does(t, show, calm, number(1))
	does(t, show, publish(1, sale(9, "")), number(1))
	does(t, show, calm, number(1))
	for n := range 4 {
		isDue(t, show, 0, 1, four[n:]...)
		isDue(t, show, 1, 1, four[n:]...)
		r, err := show.Do(of(script.Poll, n, 64))
		if err != nil || len(r.Got) != 2 {
			t.Errorf("Poll of %d: %v, %v", n, r, err)
		}
	}
	isDue(t, show, 0, 1)
	isDue(t, show, 1, 1)
}

// four are the first subscriptions of the base members.
var four = []board.Who{{Node: 0, Sub: 1}, {Node: 1, Sub: 1}, {Node: 2, Sub: 1}, {Node: 3, Sub: 1}}

// P19.1: a kind that is none.
func TestNoKind(t *testing.T) {
	show := founded(t, shop(), 3, tens)
	for _, k := range []int{0, -1, -13, 14, 15, 99, 1 << 32, 1<<32 + 1, math.MinInt, math.MaxInt} {
		refused(t, show, script.Step{Kind: k, Node: 1, N: 1, Id: 25, Text: "price in 3..9", Event: sale(5, "")}, api.ErrArg)
		refused(t, show, script.Step{Kind: k}, api.ErrArg)
	}
}

// P19.1: Join's codes.
func TestJoin(t *testing.T) {
	show := founded(t, shop(), 3, tens)
	for _, n := range wrong {
		refused(t, show, join(n, 25, 1), api.ErrArg)
		refused(t, show, join(5, 25, n), api.ErrDead)
	}
	for n := range 4 {
		refused(t, show, join(n, 25, 1), api.ErrAddrUsed)
		refused(t, show, join(5, tens[n], 1), api.ErrCollision)
	}
	refused(t, show, join(5, 25, 6), api.ErrDead)
	done(t, show, join(31, math.MaxUint64, 3))
	done(t, show, join(5, 0, 31))
	done(t, show, of(script.Leave, 5, 0))
	refused(t, show, join(5, 1, 0), api.ErrAddrUsed)
	refused(t, show, join(6, 1, 5), api.ErrDead)
	done(t, show, join(6, 0, 0))
	if !slices.Equal(show.Live(), []int{0, 1, 2, 3, 6, 31}) {
		t.Errorf("Live: %v", show.Live())
	}
}

// P19.1: Leave and Crash, of a node with no, one and many subscriptions: they are gone from the board, too, and nothing is due to them.
func TestLeaveAndCrash(t *testing.T) {
	for _, kind := range []int{script.Leave, script.Crash} {
		for _, subs := range []int{0, 1, 2, 16} {
			show := founded(t, shop(), 3, tens)
			done(t, show, join(7, 25, 1))
			does(t, show, subscribe(1, "price in 3..9"), number(1))
			does(t, show, publish(2, sale(5, "")), number(1))
			want := []board.Who{{Node: 1, Sub: 1}}
			for i := range subs {
				does(t, show, subscribe(7, "price in 0..5"), number(i+1))
				want = append(want, board.Who{Node: 7, Sub: i + 1})
			}
			isDue(t, show, 2, 1, want...)
			hasSubs(t, show, 1+subs)
			for _, n := range append([]int{4, 8, 31}, wrong...) {
				refused(t, show, of(kind, n, 7), api.ErrDead)
			}
			for n := range 4 {
				refused(t, show, of(kind, n, 7), api.ErrBusy)
			}
			isDue(t, show, 2, 1, want...)
			done(t, show, of(kind, 7, 0))
			isDue(t, show, 2, 1, want[0])
			hasSubs(t, show, 1)
			refused(t, show, of(kind, 7, 0), api.ErrDead)
			if _, err := show.Open(7); !errors.Is(err, api.ErrDead) || slices.Contains(show.Live(), 7) {
				t.Errorf("Open: %v; Live: %v", err, show.Live())
			}
		}
	}
}

// P19.1: a node without whom another one would have nobody behind it stays, and its subscriptions on the board.
func TestLeaveOfTheLastOneBehind(t *testing.T) {
	show := founded(t, shop(), 1, []api.Id{1000, 2000, 3000, 4000})
	for n := 4; n < 7; n++ {
		done(t, show, join(n, 1000+api.Id(n), 0))
	}
	for range 60 {
		done(t, show, tick)
	}
	does(t, show, subscribe(6, "price in 3..9"), number(1))
	does(t, show, publish(6, sale(5, "")), number(1))
	done(t, show, of(script.Crash, 4, 0), of(script.Leave, 5, 0))
	refused(t, show, of(script.Crash, 6, 0), api.ErrBusy)
	refused(t, show, of(script.Leave, 6, 0), api.ErrBusy)
	isDue(t, show, 6, 1, board.Who{Node: 6, Sub: 1})
	isOpen(t, show, 6, 1)
	done(t, show, tick, of(script.Leave, 6, 0))
	isDue(t, show, 6, 1)
	hasSubs(t, show, 0)
}

// P19.1: Subscribe's and Unsubscribe's codes and numbers.
func TestSubscribe(t *testing.T) {
	show := founded(t, shop(), 3, tens)
	for _, n := range append([]int{4, 31}, wrong...) {
		refused(t, show, subscribe(n, "price in 3..9"), api.ErrDead)
		refused(t, show, subscribe(n, ""), api.ErrDead)
		refused(t, show, of(script.Unsubscribe, n, 1), api.ErrDead)
	}
	for _, text := range []string{"", "price", "price in", "price in 03..9", `tag = "a`, "price in 3..9 and", "\x00"} {
		refused(t, show, subscribe(1, text), api.ErrParse)
	}
	for _, text := range []string{"price in 9..3", "price in 3..100", "cost in 3..9", `tag ^= ""`, "tag in 1..2", "price in 3..9 and price in 3..9"} {
		refused(t, show, subscribe(1, text), api.ErrSchema)
	}
	refused(t, show, subscribe(1, strings.Repeat(" ", 288)+"price in 3..9"), api.ErrArg)
	does(t, show, subscribe(1, strings.Repeat(" ", 287)+"price in 3..9"), number(1))
	for i := 2; i <= 16; i++ {
		does(t, show, subscribe(1, "price in 3..9"), number(i))
	}
	refused(t, show, subscribe(1, "price in 3..9"), api.ErrFull)
	does(t, show, subscribe(2, "price in 3..9"), number(1))
	hasSubs(t, show, 17)
	for _, id := range []int{0, -1, 17, math.MinInt, math.MaxInt} {
		refused(t, show, of(script.Unsubscribe, 1, id), api.ErrNone)
	}
	done(t, show, of(script.Unsubscribe, 1, 3))
	refused(t, show, of(script.Unsubscribe, 1, 3), api.ErrNone)
	does(t, show, subscribe(1, `tag ^= "a"`), number(17))
	hasSubs(t, show, 17)
	does(t, show, publish(0, sale(20, "ab")), number(1))
	isDue(t, show, 0, 1, board.Who{Node: 1, Sub: 17})
	done(t, show, of(script.Unsubscribe, 1, 17))
	isDue(t, show, 0, 1)
}

// P19.1, P19.3: a filter that is longer printed than it was read.
func TestLongFilter(t *testing.T) {
	var s value.Schema
	var l []string
	e := value.Event{}
	for _, name := range []string{"a", "b", "c", "d"} {
		s = append(s, value.Attr{Name: name, Kind: value.Text})
		l = append(l, name+`="`+strings.Repeat(`\"`, 32)+`"`)
		e.Values = append(e.Values, value.Value{Str: strings.Repeat(`"`, 32)})
	}
	text := strings.Join(l, " and ")
	text += strings.Repeat(" ", 300-len(text))
	show := founded(t, s, 3, quarters)
	for n := range 4 {
		does(t, show, subscribe(n, text), number(1))
	}
	does(t, show, calm, number(1))
	does(t, show, publish(3, e), number(1))
	isDue(t, show, 3, 1, four...)
	does(t, show, calm, number(1))
	for n := range 4 {
		does(t, show, of(script.Poll, n, 2), script.Result{Got: []node.Delivery{{Sub: 1, Pub: 3, Seq: 1, Event: e}}})
	}
	isDue(t, show, 3, 1)
	isOpen(t, show, 3)
}

// P19.1: Publish's codes and numbers; what is refused isn't on the board.
func TestPublish(t *testing.T) {
	show := founded(t, shop(), 3, tens)
	does(t, show, subscribe(1, "price in 3..9"), number(1))
	for _, n := range append([]int{4, 31}, wrong...) {
		refused(t, show, publish(n, sale(5, "")), api.ErrDead)
		refused(t, show, publish(n, value.Event{}), api.ErrDead)
	}
	long := sale(5, "a")
	long.Payload = strings.Repeat("p", 201)
	for _, e := range []value.Event{
		{}, {Values: []value.Value{{Num: 5}}}, {Values: []value.Value{{Num: 5}, {}, {}}}, long,
		sale(-1, ""), sale(100, ""), sale(math.MinInt, ""), sale(5, "\x7f"), sale(5, strings.Repeat("a", 41)), {Values: []value.Value{{Num: 5, Str: "a"}, {}}},
	} {
		refused(t, show, publish(2, e), api.ErrSchema)
	}
	_, err := show.Due(2, 1)
	if !errors.Is(err, api.ErrNone) {
		t.Errorf("Due of what was refused: %v", err)
	}
	long.Payload = long.Payload[1:]
	does(t, show, publish(2, long), number(1))
	for i := 2; i <= 8; i++ {
		does(t, show, publish(2, sale(i, "")), number(i))
	}
	refused(t, show, publish(2, sale(5, "")), api.ErrBusy)
	isOpen(t, show, 2, 1, 2, 3, 4, 5, 6, 7, 8)
	isDue(t, show, 2, 1, board.Who{Node: 1, Sub: 1})
	isDue(t, show, 2, 2)
	for _, e := range []told{{2, 9}, {2, 0}, {2, -1}, {1, 1}, {-1, 1}, {1, 2}, {math.MinInt, math.MaxInt}} {
		if who, err := show.Due(e.pub, e.seq); !errors.Is(err, api.ErrNone) || len(who) != 0 {
			t.Errorf("Due(%d, %d): %v, %v", e.pub, e.seq, who, err)
		}
	}
	for _, n := range append([]int{4, 31}, wrong...) {
		if open, err := show.Open(n); !errors.Is(err, api.ErrDead) || len(open) != 0 {
			t.Errorf("Open(%d): %v, %v", n, open, err)
		}
	}
}

// P19.1: Poll of fewer than none, none, fewer and more than wait; what isn't polled yet is due, though it is confirmed.
func TestPoll(t *testing.T) {
	show := founded(t, shop(), 1, quarters)
	does(t, show, subscribe(1, "price in 3..9"), number(1))
	does(t, show, subscribe(1, "price in 0..99"), number(2))
	does(t, show, calm, number(1))
	for i, price := range []int{5, 70, 6} {
		does(t, show, publish(3, sale(price, "")), number(i+1))
		does(t, show, calm, number(1))
	}
	isOpen(t, show, 3)
	one, two := board.Who{Node: 1, Sub: 1}, board.Who{Node: 1, Sub: 2}
	for _, most := range []int{0, -1, -64, math.MinInt} {
		done(t, show, of(script.Poll, 1, most))
	}
	for _, n := range append([]int{4, 31}, wrong...) {
		refused(t, show, of(script.Poll, n, 9), api.ErrDead)
	}
	isDue(t, show, 3, 1, one, two)
	does(t, show, of(script.Poll, 1, 1), script.Result{Got: []node.Delivery{{Sub: 1, Pub: 3, Seq: 1, Event: sale(5, "")}}})
	isDue(t, show, 3, 1, two)
	does(t, show, of(script.Poll, 1, 2), script.Result{Got: []node.Delivery{{Sub: 2, Pub: 3, Seq: 1, Event: sale(5, "")}, {Sub: 2, Pub: 3, Seq: 2, Event: sale(70, "")}}})
	isDue(t, show, 3, 1)
	isDue(t, show, 3, 2)
	isDue(t, show, 3, 3, one, two)
	// What waits for a subscription that goes goes with it.
	done(t, show, of(script.Unsubscribe, 1, 1))
	isDue(t, show, 3, 3, two)
	does(t, show, of(script.Poll, 1, math.MaxInt), script.Result{Got: []node.Delivery{{Sub: 2, Pub: 3, Seq: 3, Event: sale(6, "")}}})
	isDue(t, show, 3, 3)
	done(t, show, of(script.Poll, 1, 9), of(script.Poll, 0, 9))
}
