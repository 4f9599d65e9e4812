package node_test

import (
	"fmt"
	"math/rand"
	"slices"
	"strings"
	"testing"

	"wigwag/api"
	"wigwag/group"
	"wigwag/link"
	"wigwag/msg"
	"wigwag/node"
	"wigwag/table"
	"wigwag/value"
)

// both is a node, its twin, and the ends of its peers' links. Whatever is handed in or answered is spoilt at once, so that a node which shares it is another one than its twin from then on.
type both struct {
	t     *testing.T
	n     *node.Node
	w     *twin
	e     *env
	far   map[int]*link.Link
	named map[string]bool // all groups that were ever named
	heard map[int][]string
	what  string
}

func start(t *testing.T, addr, levels int, e *env) *both {
	t.Helper()
	s := shop()
	n, err := node.New(addr, s, levels)
	if err != nil {
		t.Fatalf("New(%d, .., %d): %v", addr, levels, err)
	}
	s[0], s[1] = value.Attr{}, value.Attr{}
	return &both{t: t, n: n, w: newTwin(addr, levels), e: e, far: map[int]*link.Link{}, named: map[string]bool{}, heard: map[int][]string{}}
}

// check asks for the whole node by each call that changes nothing.
func (b *both) check() {
	b.t.Helper()
	if got, want := b.n.Subs(), b.w.subs; toldSubs(got) != toldSubs(want) {
		b.t.Fatalf("%s: Subs = %s; not %s", b.what, toldSubs(got), toldSubs(want))
	} else {
		spoilSubs(got)
	}
	open := b.n.Open()
	if !slices.Equal(open, b.w.open()) {
		b.t.Fatalf("%s: Open = %v, not %v", b.what, open, b.w.open())
	}
	clear(open)
	if got := []int{b.n.Waits(), b.n.Entries(), b.n.Lost()}; !slices.Equal(got, []int{len(b.w.inbox), len(b.w.wishes), b.w.lost}) {
		b.t.Fatalf("%s: Waits, Entries, Lost = %v; not %d, %d, %d", b.what, got, len(b.w.inbox), len(b.w.wishes), b.w.lost)
	}
	if got := b.n.Idle(); got != b.w.idle() {
		b.t.Fatalf("%s: Idle = %v", b.what, got)
	}
	for g := range b.named {
		got, want := b.n.Children(g), b.w.children(g)
		if told(got) != told(want) {
			b.t.Fatalf("%s: Children(%q) = %s; not %s", b.what, g, told(got), told(want))
		}
		spoil(got)
	}
	if len(b.w.subs) > 16 || len(b.w.inbox) > 64 || len(b.w.open()) > 8 || len(b.w.wishes) > 400 {
		b.t.Fatalf("%s: more than there may be", b.what)
	}
	for n := range b.e.asked {
		if n != b.w.addr {
			b.t.Fatalf("%s: Next was asked of %d", b.what, n)
		}
	}
}

func spoil(l []table.Entry) {
	for i := range l {
		for j := range l[i].Filters {
			l[i].Filters[j] = "spoilt"
		}
		_ = append(l[i].Filters, "spoilt")
		l[i] = table.Entry{Group: "spoilt", Child: 7, Any: true}
	}
}

func spoilSubs(l []node.Sub) {
	for i := range l {
		clear(l[i].Filter)
		clear(l[i].Groups)
		_, _ = append(l[i].Filter, value.Pred{}), append(l[i].Groups, "spoilt")
		l[i] = node.Sub{Text: "spoilt"}
	}
}

func spoilEvent(e value.Event) {
	for i := range e.Values {
		e.Values[i] = value.Value{Num: -77, Str: "spoilt"}
	}
	_ = append(e.Values, value.Value{Num: -78})
}

func (b *both) subscribe(f asks) {
	b.t.Helper()
	want, code := b.w.subscribe(f)
	if id, err := b.n.Subscribe(f.typed); id != want || api.Of(err) != code {
		b.t.Fatalf("%s: Subscribe(%q) = %d, %v; not %d, %v", b.what, f.typed, id, err, want, code)
	}
	for _, s := range b.w.subs {
		for _, g := range s.Groups {
			b.named[g] = true
		}
	}
	b.w.counts["subscribe "+code.Error()]++
}

func (b *both) refuseSubscribe(text string, want api.Code) {
	b.t.Helper()
	if id, err := b.n.Subscribe(text); id != 0 || api.Of(err) != want {
		b.t.Fatalf("%s: Subscribe(%.40q) = %d, %v; not %v", b.what, text, id, err, want)
	}
}

func (b *both) unsubscribe(id int) {
	b.t.Helper()
	want := b.w.unsubscribe(id)
	if err := b.n.Unsubscribe(id); api.Of(err) != want {
		b.t.Fatalf("%s: Unsubscribe(%d): %v, not %v", b.what, id, err, want)
	}
	b.w.counts["unsubscribe "+want.Error()]++
}

func (b *both) publish(e value.Event) {
	b.t.Helper()
	want, code := b.w.publish(e)
	e.Values = append(make([]value.Value, 0, 8), e.Values...)
	before := fmt.Sprint(e.Values[:8])
	if seq, err := b.n.Publish(e); seq != want || api.Of(err) != code {
		b.t.Fatalf("%s: Publish(%v) = %d, %v; not %d, %v", b.what, e, seq, err, want, code)
	}
	if after := fmt.Sprint(e.Values[:8]); after != before {
		b.t.Fatalf("%s: Publish changed %s to %s", b.what, before, after)
	}
	spoilEvent(e)
	b.w.counts["publish "+code.Error()]++
}

func (b *both) poll(most int) []node.Delivery {
	b.t.Helper()
	want := b.w.poll(most)
	got := b.n.Poll(most)
	if toldDeliveries(got) != toldDeliveries(want) {
		b.t.Fatalf("%s: Poll(%d) = %s; not %s", b.what, most, toldDeliveries(got), toldDeliveries(want))
	}
	for i := range got {
		rest := toldDeliveries(got[i+1:])
		spoilEvent(got[i].Event)
		if toldDeliveries(got[i+1:]) != rest {
			b.t.Fatalf("%s: deliveries of one Poll share memory", b.what)
		}
		got[i] = node.Delivery{}
	}
	b.w.counts["polled"] += len(want)
	return want
}

func (b *both) tick(now int) {
	b.t.Helper()
	b.w.tick(now, b.e)
	b.n.Tick(now, b.e)
}

// packets: what goes out now; the peers take what lies in keep's favour.
func (b *both) packets(keep func() bool) {
	b.t.Helper()
	want := b.w.packets()
	got := b.n.Packets()
	if toldOut(got) != toldOut(want) {
		b.t.Fatalf("%s: Packets = %s; not %s", b.what, toldOut(got), toldOut(want))
	}
	for i, o := range got {
		if keep() {
			b.arrive(o)
		}
		got[i] = node.Out{}
	}
}

// arrive: a packet of the node comes to its peer.
func (b *both) arrive(o node.Out) {
	b.t.Helper()
	s, came, err := b.peer(o.To).Take(o.Text)
	if err != nil {
		b.t.Fatalf("%s: the packet %x to %d: %v", b.what, o.Text, o.To, err)
	}
	if came {
		m, err := msg.Read(s)
		if err != nil {
			b.t.Fatalf("%s: the message %x to %d: %v", b.what, s, o.To, err)
		}
		b.heard[o.To] = append(b.heard[o.To], toldMsg(m))
	}
}

// sent: all that the peers hear, by packets to and fro till nothing waits, by rising peers.
func (b *both) sent() []string {
	b.t.Helper()
	for !b.n.Idle() {
		b.packets(func() bool { return true })
		for p := range 32 {
			if b.far[p] == nil || b.e.dead[p] {
				continue
			}
			for _, s := range b.far[p].Packets() {
				b.take(p, s)
			}
		}
	}
	var l []string
	for p := range 32 {
		for _, s := range b.heard[p] {
			l = append(l, fmt.Sprint(p, ": ", s))
		}
	}
	clear(b.heard)
	return l
}

// expectSent asks for just these messages.
func (b *both) expectSent(want ...string) {
	b.t.Helper()
	if got := b.sent(); !slices.Equal(got, want) {
		b.t.Errorf("%s: sent\n%s\nnot\n%s", b.what, strings.Join(got, "\n"), strings.Join(want, "\n"))
	}
	b.check()
}

// peer: the other end of the link to a peer.
func (b *both) peer(p int) *link.Link {
	if b.far[p] == nil {
		b.far[p] = &link.Link{}
	}
	return b.far[p]
}

func (b *both) take(from int, p string) {
	b.t.Helper()
	want := b.w.take(from, p, b.e)
	if err := b.n.Take(from, p, b.e); api.Of(err) != want {
		b.t.Fatalf("%s: Take(%d, %.60x): %v, not %v", b.what, from, p, err, want)
	}
	b.w.counts["take "+want.Error()]++
}

// say: a peer pushes a message on its link.
func (b *both) say(from int, m msg.Msg) {
	b.t.Helper()
	b.named[m.Group] = true
	s, err := msg.Bytes(m)
	if err != nil {
		b.t.Fatalf("%s: %v: %v", b.what, m, err)
	}
	_ = b.peer(from).Push(s)
}

// hear: what a peer sends comes, all of it.
func (b *both) hear(from int) {
	b.t.Helper()
	for len(b.peer(from).Queue) > 0 {
		for _, p := range b.peer(from).Packets() {
			b.take(from, p)
		}
		b.packets(func() bool { return true })
	}
}

// tell: a peer's message comes.
func (b *both) tell(from int, m msg.Msg) {
	b.t.Helper()
	b.say(from, m)
	b.hear(from)
}

func (b *both) hand(from, to api.Id) {
	b.t.Helper()
	want := b.w.gone(func(x table.Entry) bool {
		// Met on the way from from on to to, told without distances.
		k := group.Key(x.Group)
		switch {
		case from == to:
			return true
		case from < to:
			return from < k && k <= to
		}
		return k > from || k <= to
	})
	got := b.n.Hand(from, to)
	if told(got) != told(want) {
		b.t.Fatalf("%s: Hand(%d, %d) = %s; not %s", b.what, from, to, told(got), told(want))
	}
	spoil(got)
	b.w.counts["handed"] += len(want)
}

func (b *both) get(l []table.Entry) {
	b.t.Helper()
	var own []table.Entry
	for _, x := range l {
		b.named[x.Group] = true
		if x.Child != b.w.addr {
			b.w.put(x)
			b.w.counts["gotten"]++
		} else {
			b.w.counts["gotten of itself"]++
		}
		x.Filters = slices.Clone(x.Filters)
		own = append(own, x)
	}
	b.n.Get(own)
	if told(own) != told(l) {
		b.t.Fatalf("%s: Get changed %s to %s", b.what, told(l), told(own))
	}
	spoil(own)
}

// draw is the dice of a random run.
type draw struct {
	*rand.Rand
	groups []string
	calm   int // how seldom what takes much away happens
}

func (d draw) one(l []string) string { return l[d.Intn(len(l))] }

func (d draw) event() value.Event {
	e := sale(d.Intn(100), tags[d.Intn(len(tags))])
	if d.Intn(3) == 0 {
		e.Values[0].Num = []int{0, 3, 9, 10, 50, 60, 99}[d.Intn(7)]
	}
	switch d.Intn(40) {
	case 0:
		e.Values[0].Num = []int{-1, 100}[d.Intn(2)]
	case 1:
		e.Values = e.Values[:d.Intn(2)]
	case 2:
		e.Values = append(e.Values, value.Value{})
	case 3:
		e.Payload = strings.Repeat("p", 200+d.Intn(2))
	case 4:
		e.Values[0].Str = "x"
	case 5:
		e.Values[1].Num = 1
	}
	return e
}

func (d draw) wish() table.Entry {
	x := table.Entry{Group: d.one(d.groups), Any: d.Intn(12) == 0}
	if x.Any {
		return x
	}
	for range d.Intn(4) {
		x.Filters = append(x.Filters, filters[d.Intn(len(filters))].text)
	}
	if d.Intn(8) == 0 {
		x.Filters = append(x.Filters, d.one(noFilters))
	}
	if d.Intn(len(d.groups)) < 2 {
		for range 5 {
			x.Filters = append(x.Filters, strings.Repeat("long ", 50)+fmt.Sprint(d.Intn(12)))
		}
	}
	return x
}

func (d draw) message(w *twin) msg.Msg {
	m := msg.Msg{Kind: 1 + d.Intn(5), Group: d.one(d.groups)}
	switch m.Kind {
	case msg.Graft:
		x := d.wish()
		m.Any, m.Filters = x.Any, x.Filters
		return m
	case msg.Prune:
		return m
	}
	m.Pub, m.Seq = d.Intn(4), 1+d.Intn(6)
	if d.Intn(2) == 0 {
		m.Seq = max(1, w.greatest[m.Pub]+d.Intn(10)-5)
	}
	if d.Intn(4) == 0 {
		m.Seq = max(1, w.greatest[m.Pub]+[]int{-66, -65, -64, -63, -62, 1, 40, 60}[d.Intn(8)])
	}
	if m.Kind == msg.Confirm {
		if open := w.open(); len(open) > 0 && d.Intn(2) == 0 {
			m.Pub, m.Seq = w.addr, open[d.Intn(len(open))]
		}
		return m
	}
	m.Event = d.event()
	if len(m.Event.Values) > 4 {
		m.Event.Values = m.Event.Values[:4]
	}
	if m.Kind == msg.Route {
		m.Hops = []int{0, 1, 5, 63, 64, 65}[d.Intn(6)]
	}
	return m
}

// answer: what an Env may say of a place.
func (d draw) answer(addr int) hop {
	switch d.Intn(12) {
	case 0:
		return hop{to: -1}
	case 1:
		return hop{to: d.Intn(5), err: api.ErrDead}
	case 2:
		return hop{to: -1, err: api.ErrHops}
	case 3:
		return hop{to: 40}
	case 4, 5, 6, 7:
		return hop{to: addr}
	}
	return hop{to: d.Intn(5)}
}
