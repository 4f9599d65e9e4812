package node_test

import (
	"fmt"
	"math/rand"
	"slices"
	"testing"

	"wigwag/api"
	"wigwag/code"
	"wigwag/msg"
	"wigwag/node"
	"wigwag/value"
)

// flying is a packet on its way from one of two nodes to the other one.
type flying struct {
	from int
	text string
}

// pair is two nodes, 0 and 1, of which 1 is the root of all groups; packets on their way; and what was published, asked for and polled.
type pair struct {
	t      *testing.T
	s      value.Schema
	nodes  []*node.Node
	e      *env
	now    int
	flight []flying
	events map[[2]int]value.Event // by publisher and number
	got    map[[4]int]int         // by node, subscription, publisher, number
	downs  map[int]int            // of node 1's messages to node 0, by their numbers: those that are Down
}

func newPair(t *testing.T, s value.Schema, levels int) *pair {
	t.Helper()
	p := &pair{t: t, s: s, e: always(1), events: map[[2]int]value.Event{}, got: map[[4]int]int{}, downs: map[int]int{}}
	for i := range 2 {
		n, err := node.New(i, s, levels)
		if err != nil {
			t.Fatal(err)
		}
		p.nodes = append(p.nodes, n)
	}
	for i := 2; i < 32; i++ {
		p.e.dead[i] = true
	}
	return p
}

// tick: of these nodes, in this order.
func (p *pair) tick(order ...int) {
	p.now++
	for _, i := range order {
		p.nodes[i].Tick(p.now, p.e)
	}
}

func (p *pair) send(i int) {
	p.t.Helper()
	for _, o := range p.nodes[i].Packets() {
		if o.To != 1-i {
			p.t.Fatalf("a packet to %d", o.To)
		}
		p.flight = append(p.flight, flying{i, o.Text})
	}
}

func (p *pair) take(f flying) {
	p.t.Helper()
	if err := p.nodes[1-f.from].Take(f.from, f.text, p.e); err != nil {
		p.t.Fatalf("Take: %v", err)
	}
	r := code.Open(f.text)
	number, _, text := r.Int(), r.Int(), r.Text(2000)
	if m, err := msg.Read(text); err == nil && m.Kind == msg.Down {
		p.downs[number]++
	}
}

// settle: all packets arrive, to and fro, till nothing waits.
func (p *pair) settle() {
	p.t.Helper()
	for turns := 0; len(p.flight) > 0 || !p.nodes[0].Idle() || !p.nodes[1].Idle(); turns++ {
		if turns > 100 {
			p.t.Fatal("it doesn't come to rest")
		}
		all := p.flight
		p.flight = nil
		for _, f := range all {
			p.take(f)
		}
		p.send(0)
		p.send(1)
	}
}

// lossy: one packet on its way is lost, doubled, or arrives, in any order.
func (p *pair) lossy(dice *rand.Rand) {
	p.t.Helper()
	if len(p.flight) == 0 {
		return
	}
	i := dice.Intn(len(p.flight))
	f := p.flight[i]
	if dice.Intn(4) > 0 {
		p.flight = slices.Delete(p.flight, i, i+1)
	}
	if dice.Intn(4) > 0 {
		p.take(f)
	}
}

func (p *pair) publish(i int, e value.Event) {
	p.t.Helper()
	seq, err := p.nodes[i].Publish(e)
	if err != nil {
		if api.Of(err) != api.ErrBusy || len(p.nodes[i].Open()) != 8 {
			p.t.Fatalf("Publish: %v", err)
		}
		return
	}
	p.events[[2]int{i, seq}] = e
}

// poll: P16.2: each delivery is of an event that was published so, of a subscription that is there, and takes it, and got it not yet.
func (p *pair) poll(i, most int) {
	p.t.Helper()
	for _, d := range p.nodes[i].Poll(most) {
		e, here := p.events[[2]int{d.Pub, d.Seq}]
		if !here || fmt.Sprint(e) != fmt.Sprint(d.Event) {
			p.t.Fatalf("%v was published as %v, %v", d, e, here)
		}
		subs := p.nodes[i].Subs()
		at := slices.IndexFunc(subs, func(s node.Sub) bool { return s.Id == d.Sub })
		if at < 0 || !takes(subs[at].Text, e) {
			p.t.Fatalf("%v isn't what was asked for", d)
		}
		key := [4]int{i, d.Sub, d.Pub, d.Seq}
		if p.got[key]++; p.got[key] > 1 {
			p.t.Fatalf("%v came twice", d)
		}
	}
}

// fits: P16.4.
func (p *pair) fits() {
	p.t.Helper()
	for i, n := range p.nodes {
		if len(n.Subs()) > 16 || n.Waits() > 64 || len(n.Open()) > 8 || n.Entries() > 400 {
			p.t.Fatalf("%d: %d subscriptions, %d wait, %d open, %d wishes", i, len(n.Subs()), n.Waits(), len(n.Open()), n.Entries())
		}
	}
}

// any: some calls of two nodes, with packets lost, doubled and late.
func (p *pair) any(dice *rand.Rand, subs int) {
	p.t.Helper()
	i := dice.Intn(2)
	n := p.nodes[i]
	switch k := dice.Intn(60); {
	case k < 3:
		if len(n.Subs()) < subs {
			if _, err := n.Subscribe(filters[dice.Intn(len(filters))].typed); err != nil {
				p.t.Fatal(err)
			}
		}
	case k < 4:
		if l := n.Subs(); len(l) > 0 {
			if err := n.Unsubscribe(l[dice.Intn(len(l))].Id); err != nil {
				p.t.Fatal(err)
			}
		}
	case k < 8:
		p.publish(i, sale(dice.Intn(100), tags[dice.Intn(len(tags))]))
	case k < 10:
		// The more subscriptions, the more waits for long.
		if dice.Intn(subs) < 4 {
			p.poll(i, dice.Intn(20))
		}
	case k < 13:
		p.tick(i, 1-i)
	case k < 25:
		p.send(i)
		// Those that fly for long are lost, so that others get their turn.
		p.flight = slices.Delete(p.flight, 0, max(0, len(p.flight)-30))
	default:
		p.lossy(dice)
	}
	p.fits()
}

// calm: P16.3: a tick with all packets brings the wishes over, the next one brings each event to all that take it.
func (p *pair) calm(dice *rand.Rand) {
	p.t.Helper()
	first := dice.Intn(2)
	p.tick(first, 1-first)
	p.settle()
	p.poll(0, 64)
	p.poll(1, 64)
	type due struct {
		i, sub, pub, seq int
	}
	var all []due
	for pub := range 2 {
		for range 2 {
			e := sale(dice.Intn(100), tags[dice.Intn(len(tags))])
			seq, err := p.nodes[pub].Publish(e)
			if err != nil {
				p.t.Fatal(err)
			}
			p.events[[2]int{pub, seq}] = e
			for i, n := range p.nodes {
				for _, s := range n.Subs() {
					if takes(s.Text, e) {
						all = append(all, due{i, s.Id, pub, seq})
					}
				}
			}
		}
	}
	before := len(p.got)
	first = dice.Intn(2)
	p.tick(first, 1-first)
	p.settle()
	p.poll(0, 64)
	p.poll(1, 64)
	for _, d := range all {
		if p.got[[4]int{d.i, d.sub, d.pub, d.seq}] != 1 {
			p.t.Fatalf("%v didn't come", d)
		}
	}
	if len(p.got)-before != len(all) {
		p.t.Fatalf("%d came, %d were due", len(p.got)-before, len(all))
	}
	for i, n := range p.nodes {
		if len(n.Open()) != 0 || !n.Idle() {
			p.t.Fatalf("%d: Open = %v, Idle = %v", i, n.Open(), n.Idle())
		}
	}
}

// P16.2, P16.3, P16.4: two nodes with packets lost, doubled and late; then, with all packets, all comes to all.
func TestTwoNodes(t *testing.T) {
	came := 0
	for seed := range 150 {
		dice := rand.New(rand.NewSource(int64(seed)))
		p := newPair(t, shop(), seed%4)
		for range 3 {
			for range 400 {
				p.any(dice, 4)
			}
			// What is open from that time needs room on the link, too.
			for range 5 {
				p.tick(0, 1)
				p.settle()
				p.poll(0, 64)
				p.poll(1, 64)
			}
			p.calm(dice)
			p.calm(dice)
		}
		came += len(p.got)
	}
	if came < 5000 {
		t.Errorf("just %d came", came)
	}
}

// P16.2, P16.4: the same with as many subscriptions as there may be, and nothing polled for long.
func TestTwoNodesThatAreFull(t *testing.T) {
	lost, full := 0, 0
	for seed := range 20 {
		dice := rand.New(rand.NewSource(int64(1000 + seed)))
		p := newPair(t, shop(), 0)
		for i := range 2 {
			for k := range 16 {
				if _, err := p.nodes[i].Subscribe(filters[k%len(filters)].typed); err != nil {
					t.Fatal(err)
				}
			}
		}
		for k := range 1500 {
			p.any(dice, 16)
			if k%50 == 0 {
				p.settle()
			}
			if p.nodes[0].Waits() == 64 {
				full++
			}
		}
		p.settle()
		p.poll(0, 64)
		p.poll(1, 64)
		lost += p.nodes[0].Lost() + p.nodes[1].Lost()
	}
	if lost < 100 || full < 100 {
		t.Errorf("%d lost, %d times full", lost, full)
	}
}

// P16.3: what the child publishes with its first wishes comes to all by one tick, as the wishes go ahead.
func TestWishesGoAheadOfEvents(t *testing.T) {
	p := newPair(t, shop(), 3)
	for _, n := range p.nodes {
		for _, f := range filters[:4] {
			if _, err := n.Subscribe(f.typed); err != nil {
				t.Fatal(err)
			}
		}
	}
	p.publish(0, sale(5, "a"))
	p.tick(1, 0)
	p.settle()
	for i, n := range p.nodes {
		if n.Waits() != 4 || len(n.Open()) != 0 {
			t.Errorf("%d: Waits = %d, Open = %v", i, n.Waits(), n.Open())
		}
		p.poll(i, 9)
	}
}
