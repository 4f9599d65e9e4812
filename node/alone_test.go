package node_test

import (
	"fmt"
	"math/rand"
	"slices"
	"strings"
	"testing"

	"wigwag/api"
	"wigwag/node"
	"wigwag/value"
)

// broad is a schema of four attributes.
func broad() value.Schema {
	return value.Schema{{Name: "a", Kind: value.Int, Min: -8, Max: 8}, {Name: "b", Kind: value.Text}, {Name: "c", Kind: value.Int, Min: -value.Most, Max: value.Most}, {Name: "d", Kind: value.Text}}
}

// listed is a subscription of the plain list.
type listed struct {
	id, lo, hi int
	begin      string
}

func (x listed) text() string { return fmt.Sprintf(`a in %d..%d and b ^= "%s"`, x.lo, x.hi, x.begin) }

func (x listed) takes(e value.Event) bool {
	return e.Values[0].Num >= x.lo && e.Values[0].Num <= x.hi && strings.HasPrefix(e.Values[1].Str, x.begin)
}

// list is what a node alone does, as two plain lists, of subscriptions and of events.
type list struct {
	subs   []listed
	made   int
	events []value.Event
	sent   int // how many of the events a tick saw
	inbox  []string
	lost   int
}

func (l *list) tick() {
	for ; l.sent < len(l.events); l.sent++ {
		for _, x := range l.subs {
			if !x.takes(l.events[l.sent]) {
				continue
			}
			if len(l.inbox) < 64 {
				l.inbox = append(l.inbox, fmt.Sprint(x.id, " ", l.sent+1, " ", l.events[l.sent]))
			} else {
				l.lost++
			}
		}
	}
}

func (l *list) unsubscribe(id int) bool {
	n := len(l.subs)
	l.subs = slices.DeleteFunc(l.subs, func(x listed) bool { return x.id == id })
	l.inbox = slices.DeleteFunc(l.inbox, func(s string) bool { return strings.HasPrefix(s, fmt.Sprint(id, " ")) })
	return len(l.subs) < n
}

// alone is one call of a node alone, drawn, and of its list.
func alone(t *testing.T, dice *rand.Rand, addr int, n *node.Node, l *list) string {
	t.Helper()
	switch k := dice.Intn(20); {
	case k < 4:
		x := listed{lo: dice.Intn(9) - 8, hi: dice.Intn(9), begin: []string{"x", "xy", "z"}[dice.Intn(3)]}
		id, err := n.Subscribe(x.text())
		if len(l.subs) == 16 {
			if id != 0 || api.Of(err) != api.ErrFull {
				t.Fatalf("the 17th: %d, %v", id, err)
			}
			return "full"
		}
		l.made++
		x.id = l.made
		if id != x.id || err != nil {
			t.Fatalf("Subscribe: %d, %v; not %d", id, err, x.id)
		}
		l.subs = append(l.subs, x)
		return "subscribed"
	case k < 5:
		id := dice.Intn(l.made + 2)
		if err := n.Unsubscribe(id); (err == nil) != l.unsubscribe(id) {
			t.Fatalf("Unsubscribe(%d): %v", id, err)
		}
		return "unsubscribed"
	case k < 13:
		e := value.Event{Values: []value.Value{{Num: dice.Intn(17) - 8}, {Str: []string{"x", "xyz", "zz", ""}[dice.Intn(4)]}, {Num: dice.Intn(1<<32) - 1<<31}, {Str: "d"}}, Payload: fmt.Sprint(len(l.events))}
		seq, err := n.Publish(e)
		if len(l.events)-l.sent == 8 {
			if seq != 0 || api.Of(err) != api.ErrBusy {
				t.Fatalf("the ninth: %d, %v", seq, err)
			}
			return "busy"
		}
		l.events = append(l.events, e)
		if seq != len(l.events) || err != nil {
			t.Fatalf("Publish: %d, %v; not %d", seq, err, len(l.events))
		}
		return "published"
	case k < 17:
		l.tick()
		n.Tick(dice.Intn(2), always(addr))
		return "ticked"
	}
	most := dice.Intn(12) - 1
	var got []string
	for _, d := range n.Poll(most) {
		if d.Pub != addr {
			t.Fatalf("of %d: %v", d.Pub, d)
		}
		got = append(got, fmt.Sprint(d.Sub, " ", d.Seq, " ", d.Event))
	}
	want := l.inbox[:min(max(0, most), len(l.inbox))]
	if !slices.Equal(got, want) {
		t.Fatalf("Poll(%d) = %v; not %v", most, got, want)
	}
	l.inbox = l.inbox[len(want):]
	return "polled"
}

// P16.1, P16.4: a node whose own all places are: what a plain list of subscriptions and events says.
func TestAlone(t *testing.T) {
	counts := map[string]int{}
	for seed := range 60 {
		dice := rand.New(rand.NewSource(int64(seed)))
		addr := []int{0, 7, 31}[seed%3]
		n, err := node.New(addr, broad(), seed%9)
		if err != nil {
			t.Fatal(err)
		}
		l := &list{}
		for i := range 400 {
			counts[alone(t, dice, addr, n, l)]++
			if n.Waits() != len(l.inbox) || n.Lost() != l.lost || len(n.Subs()) != len(l.subs) || len(n.Open()) != len(l.events)-l.sent {
				t.Fatalf("seed %d, call %d: Waits = %d, Lost = %d, %d subscriptions, Open = %v", seed, i, n.Waits(), n.Lost(), len(n.Subs()), n.Open())
			}
			if n.Waits() > 64 || len(n.Subs()) > 16 || len(n.Open()) > 8 {
				t.Fatalf("seed %d, call %d: more than there may be", seed, i)
			}
			if !n.Idle() || len(n.Packets()) != 0 || n.Entries() != 0 {
				t.Fatalf("seed %d, call %d: it isn't alone", seed, i)
			}
		}
		counts["lost"] += l.lost
	}
	for _, what := range []string{"full", "subscribed", "unsubscribed", "busy", "published", "ticked", "polled", "lost"} {
		if counts[what] < 100 {
			t.Errorf("%s: just %d", what, counts[what])
		}
	}
}
