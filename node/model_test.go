package node_test

import (
	"fmt"
	"maps"
	"slices"
	"sort"
	"strings"

	"wigwag/api"
	"wigwag/group"
	"wigwag/link"
	"wigwag/msg"
	"wigwag/node"
	"wigwag/table"
	"wigwag/value"
)

// shop is the schema of most tests.
func shop() value.Schema {
	return value.Schema{{Name: "price", Kind: value.Int, Max: 99}, {Name: "tag", Kind: value.Text}}
}

func sale(price int, tag string) value.Event {
	return value.Event{Values: []value.Value{{Num: price}, {Str: tag}}, Payload: fmt.Sprint(price, tag)}
}

// hop is what an Env answers for a place.
type hop struct {
	to  int
	err error
}

// env is the Env of the tests: all from 0 to 31 live but those that are dead; all places' next one is other, but those of which at tells.
type env struct {
	at    map[api.Id]hop
	other hop
	dead  map[int]bool
	every bool        // all ints live
	asked map[int]int // by who was told to ask
}

func always(to int) *env {
	return &env{at: map[api.Id]hop{}, other: hop{to: to}, dead: map[int]bool{}, asked: map[int]int{}}
}

func (e *env) Next(n int, x api.Id) (int, error) {
	e.asked[n]++
	h := e.hop(x)
	return h.to, h.err
}

func (e *env) hop(x api.Id) hop {
	if h, here := e.at[x]; here {
		return h
	}
	return e.other
}

func (e *env) Lives(n int) bool { return e.every || n >= 0 && n < 32 && !e.dead[n] }

// set: the next one on the way to a group.
func (e *env) set(g string, to int, err error) { e.at[group.Key(g)] = hop{to, err} }

// asks is a filter of the shop, told by a text that may be typed, as it is printed, and as what it takes.
type asks struct {
	typed, text string
	takes       func(price int, tag string) bool
}

var filters = []asks{
	{"price in 3..9", "price in 3..9", func(p int, t string) bool { return p >= 3 && p <= 9 }},
	{" price  in 0 .. 99 ", "price in 0..99", func(p int, t string) bool { return true }},
	{`tag="a"`, `tag = "a"`, func(p int, t string) bool { return t == "a" }},
	{`tag^="a"`, `tag ^= "a"`, func(p int, t string) bool { return strings.HasPrefix(t, "a") }},
	{`tag ^= "b" and price in 50..60`, `tag ^= "b" and price in 50..60`, func(p int, t string) bool { return strings.HasPrefix(t, "b") && p >= 50 && p <= 60 }},
	{`price in 20..70and tag=""`, `price in 20..70 and tag = ""`, func(p int, t string) bool { return p >= 20 && p <= 70 && t == "" }},
	{`tag = " and "`, `tag = " and "`, func(p int, t string) bool { return t == " and " }},
	{"price in 99..99", "price in 99..99", func(p int, t string) bool { return p == 99 }},
	{"price in 5..80", "price in 5..80", func(p int, t string) bool { return p >= 5 && p <= 80 }},
}

var tags = []string{"", "a", "ab", "b", "bbb", " and ", "zz"}

// noFilters are texts that take nothing of the shop.
var noFilters = []string{"", "price", "price in 0..100", `color = "a"`, "price in 9..3", `tag = "a" and tag = "a"`, strings.Repeat("x", 310), strings.Repeat(" and ", 100)}

// takes: does a text of a wish take an event of the shop, told without layer 6?
func takes(text string, e value.Event) bool {
	for _, f := range filters {
		if f.text == text {
			return f.takes(e.Values[0].Num, e.Values[1].Str)
		}
	}
	return false
}

// ofShop: is it an event of the shop, told without layer 5?
func ofShop(e value.Event) bool {
	return len(e.Values) == 2 && len(e.Payload) <= 200 && e.Values[0].Num >= 0 && e.Values[0].Num <= 99 && e.Values[0].Str == "" && e.Values[1].Num == 0 && slices.Contains(tags, e.Values[1].Str)
}

// twin is a node of the shop, told a second time: plain lists, and all that ever was.
type twin struct {
	addr, levels int
	now          int
	subs         []node.Sub
	made         int // how many subscriptions ever
	events       []value.Event
	unconfirmed  []map[string]bool // by the events' places
	inbox        []node.Delivery
	wishes       []table.Entry
	came         map[string]bool
	greatest     map[int]int
	links        map[int]*link.Link
	downs        []string
	lost         int
	counts       map[string]int // what was met on the way
}

func newTwin(addr, levels int) *twin {
	return &twin{addr: addr, levels: levels, came: map[string]bool{}, greatest: map[int]int{}, links: map[int]*link.Link{}, counts: map[string]int{}}
}

func (w *twin) drop(why string) {
	w.lost++
	w.counts["lost: "+why]++
}

func (w *twin) subscribe(f asks) (int, api.Code) {
	if len(w.subs) == 16 {
		return 0, api.ErrFull
	}
	w.made++
	x := filterOf(f.text)
	groups, err := group.Of(shop(), x, w.levels)
	if err != nil {
		panic(err)
	}
	w.subs = append(w.subs, node.Sub{Id: w.made, Text: f.text, Filter: x, Groups: groups})
	return w.made, api.OK
}

// filterOf: the predicates of the texts above.
func filterOf(text string) value.Filter {
	in := func(lo, hi int) value.Pred { return value.Pred{Name: "price", Op: value.In, Lo: lo, Hi: hi} }
	str := func(op int, s string) value.Pred { return value.Pred{Name: "tag", Op: op, Str: s} }
	return map[string]value.Filter{
		filters[0].text: {in(3, 9)},
		filters[1].text: {in(0, 99)},
		filters[2].text: {str(value.Eq, "a")},
		filters[3].text: {str(value.Prefix, "a")},
		filters[4].text: {str(value.Prefix, "b"), in(50, 60)},
		filters[5].text: {in(20, 70), str(value.Eq, "")},
		filters[6].text: {str(value.Eq, " and ")},
		filters[7].text: {in(99, 99)},
		filters[8].text: {in(5, 80)},
	}[text]
}

func (w *twin) unsubscribe(id int) api.Code {
	for i, s := range w.subs {
		if s.Id == id {
			w.subs = append(slices.Clone(w.subs[:i]), w.subs[i+1:]...)
			var left []node.Delivery
			for _, d := range w.inbox {
				if d.Sub != id {
					left = append(left, d)
				}
			}
			w.counts["unsubscribed what waits"] += len(w.inbox) - len(left)
			w.inbox = left
			return api.OK
		}
	}
	return api.ErrNone
}

func (w *twin) publish(e value.Event) (int, api.Code) {
	if !ofShop(e) {
		return 0, api.ErrSchema
	}
	if len(w.open()) == 8 {
		return 0, api.ErrBusy
	}
	groups, err := group.Reach(shop(), e, w.levels)
	if err != nil {
		panic(err)
	}
	each := map[string]bool{}
	for _, g := range groups {
		each[g] = true
	}
	w.events = append(w.events, value.Event{Values: slices.Clone(e.Values), Payload: e.Payload})
	w.unconfirmed = append(w.unconfirmed, each)
	return len(w.events), api.OK
}

func (w *twin) open() []int {
	var l []int
	for i, each := range w.unconfirmed {
		if len(each) > 0 {
			l = append(l, i+1)
		}
	}
	return l
}

func (w *twin) poll(most int) []node.Delivery {
	var got []node.Delivery
	for len(got) < most && len(w.inbox) > 0 {
		got = append(got, w.inbox[0])
		w.inbox = w.inbox[1:]
	}
	return got
}

// joined: the filters of wishes, rising, each once; and whether all is wanted.
func joined(l ...table.Entry) ([]string, bool) {
	each := map[string]bool{}
	all := false
	for _, e := range l {
		all = all || e.Any
		for _, f := range e.Filters {
			each[f] = true
		}
	}
	if all || len(each) > 16 {
		return nil, true
	}
	return slices.Sorted(maps.Keys(each)), false
}

func (w *twin) put(e table.Entry) {
	e.Filters, e.Any = joined(e)
	for i, x := range w.wishes {
		if x.Group == e.Group && x.Child == e.Child {
			w.wishes[i] = e
			return
		}
	}
	if len(w.wishes) == 400 {
		w.drop("wish")
		return
	}
	w.wishes = append(w.wishes, e)
}

// gone: the wishes of which it is true go; these, by rising groups, then children.
func (w *twin) gone(is func(table.Entry) bool) []table.Entry {
	var left, l []table.Entry
	for _, e := range w.wishes {
		if is(e) {
			l = append(l, e)
		} else {
			left = append(left, e)
		}
	}
	w.wishes = left
	return inOrder(l)
}

func inOrder(l []table.Entry) []table.Entry {
	sort.Slice(l, func(i, j int) bool {
		return l[i].Group < l[j].Group || l[i].Group == l[j].Group && l[i].Child < l[j].Child
	})
	return l
}

func (w *twin) children(g string) []table.Entry {
	var l []table.Entry
	for _, e := range w.wishes {
		if e.Group == g {
			l = append(l, e)
		}
	}
	return inOrder(l)
}

func (w *twin) tick(now int, e *env) {
	w.now = now
	for p := range w.links {
		if !e.Lives(p) {
			delete(w.links, p)
			w.counts["links gone"]++
		}
	}
	w.counts["expired"] += len(w.gone(func(x table.Entry) bool { return x.Till < now }))
	w.counts["orphans"] += len(w.gone(func(x table.Entry) bool { return !e.Lives(x.Child) }))
	each := map[string]bool{}
	for _, x := range w.wishes {
		each[x.Group] = true
	}
	for _, s := range w.subs {
		for _, g := range s.Groups {
			each[g] = true
		}
	}
	for _, g := range slices.Sorted(maps.Keys(each)) {
		h := e.hop(group.Key(g))
		if h.err == nil && h.to != -1 && h.to != w.addr {
			w.send(h.to, w.graft(g), e)
		}
	}
	for _, seq := range w.open() {
		for _, g := range reach(w.events[seq-1], w.levels) {
			if w.unconfirmed[seq-1][g] {
				w.sendOn(msg.Msg{Kind: msg.Route, Group: g, Pub: w.addr, Seq: seq, Event: w.events[seq-1]}, e)
			}
		}
	}
}

func reach(e value.Event, levels int) []string {
	l, err := group.Reach(shop(), e, levels)
	if err != nil {
		panic(err)
	}
	return l
}

// graft: what the twin and its children want of a group.
func (w *twin) graft(g string) msg.Msg {
	l := w.children(g)
	for _, s := range w.subs {
		if slices.Contains(s.Groups, g) {
			l = append(l, table.Entry{Filters: []string{s.Text}})
		}
	}
	m := msg.Msg{Kind: msg.Graft, Group: g}
	m.Filters, m.Any = joined(l...)
	if s, _ := msg.Bytes(m); s == "" {
		w.counts["too long a wish"]++
		m.Filters, m.Any = nil, true
	}
	return m
}

func (w *twin) sendOn(m msg.Msg, e *env) {
	h := e.hop(group.Key(m.Group))
	if h.err != nil || h.to == -1 {
		w.drop("no next one")
		return
	}
	w.send(h.to, m, e)
}

func (w *twin) send(to int, m msg.Msg, e *env) {
	if to == w.addr {
		w.handle(to, m, e)
		return
	}
	if !e.Lives(to) {
		w.counts["to one who doesn't live"]++
		return
	}
	s, err := msg.Bytes(m)
	if err != nil {
		panic(err)
	}
	if w.links[to] == nil {
		w.links[to] = &link.Link{}
	}
	if w.links[to].Push(s) != nil {
		w.drop("message")
	}
}

func (w *twin) take(from int, p string, e *env) api.Code {
	if from == w.addr || !e.Lives(from) {
		return api.ErrDead
	}
	if w.links[from] == nil {
		w.links[from] = &link.Link{}
	}
	s, came, err := w.links[from].Take(p)
	if err != nil || !came {
		return api.Of(err)
	}
	m, err := msg.Read(s)
	if err != nil {
		return api.Of(err)
	}
	w.handle(from, m, e)
	return api.OK
}

func (w *twin) handle(from int, m msg.Msg, e *env) {
	w.counts[fmt.Sprint("kind ", m.Kind)]++
	switch m.Kind {
	case 1:
		w.put(table.Entry{Group: m.Group, Child: from, Filters: m.Filters, Any: m.Any, Till: w.now + 4})
	case 2:
		w.counts["pruned"] += len(w.gone(func(x table.Entry) bool { return x.Group == m.Group && x.Child == from }))
	case 3:
		if h := e.hop(group.Key(m.Group)); h.err == nil && h.to == w.addr {
			w.counts["root"]++
			w.send(m.Pub, msg.Msg{Kind: msg.Confirm, Group: m.Group, Pub: m.Pub, Seq: m.Seq}, e)
			w.down(m, e)
		} else if m.Hops == 65 {
			w.drop("too far")
		} else {
			m.Hops++
			w.sendOn(m, e)
		}
	case 4:
		w.down(m, e)
	case 5:
		if m.Pub == w.addr && m.Seq <= len(w.unconfirmed) && w.unconfirmed[m.Seq-1][m.Group] {
			delete(w.unconfirmed[m.Seq-1], m.Group)
			w.counts["confirmed"]++
		}
	}
}

func (w *twin) down(m msg.Msg, e *env) {
	what := fmt.Sprint(m.Pub, " ", m.Seq, " ", m.Group)
	if !ofShop(m.Event) {
		w.counts["not of the shop"]++
		return
	}
	if slices.Contains(w.downs[max(0, len(w.downs)-512):], what) {
		w.counts["down again"]++
		return
	}
	if slices.Contains(w.downs, what) {
		w.counts["down again, forgotten"]++
	}
	w.downs = append(w.downs, what)
	w.arrive(m)
	for _, x := range w.children(m.Group) {
		if x.Any || slices.ContainsFunc(x.Filters, func(f string) bool { return takes(f, m.Event) }) {
			w.counts["down to a child"]++
			w.send(x.Child, msg.Msg{Kind: msg.Down, Group: m.Group, Pub: m.Pub, Seq: m.Seq, Event: m.Event}, e)
		} else {
			w.counts["down not to a child"]++
		}
	}
}

func (w *twin) arrive(m msg.Msg) {
	what := fmt.Sprint(m.Pub, " ", m.Seq)
	if w.greatest[m.Pub]-m.Seq >= 64 {
		w.drop("stale")
		return
	}
	if w.came[what] {
		return
	}
	w.came[what] = true
	w.greatest[m.Pub] = max(w.greatest[m.Pub], m.Seq)
	for _, s := range w.subs {
		if !takes(s.Text, m.Event) {
			continue
		}
		if len(w.inbox) == 64 {
			w.drop("delivery")
			continue
		}
		w.inbox = append(w.inbox, node.Delivery{Sub: s.Id, Pub: m.Pub, Seq: m.Seq, Event: m.Event})
	}
}

func (w *twin) packets() []node.Out {
	var l []node.Out
	for to := range 32 {
		if w.links[to] == nil {
			continue
		}
		for _, s := range w.links[to].Packets() {
			l = append(l, node.Out{To: to, Text: s})
		}
	}
	return l
}

func (w *twin) idle() bool {
	for _, l := range w.links {
		if len(l.Queue) > 0 || l.Owes {
			return false
		}
	}
	return true
}

// told: things as a text; a nil list is as an empty one.
func told(l []table.Entry) string {
	var s strings.Builder
	for _, e := range l {
		fmt.Fprintf(&s, "(%q %d %q %v %d)", e.Group, e.Child, append([]string{}, e.Filters...), e.Any, e.Till)
	}
	return s.String()
}

func toldSubs(l []node.Sub) string {
	var s strings.Builder
	for _, x := range l {
		fmt.Fprintf(&s, "(%d %q %v %q)", x.Id, x.Text, x.Filter, x.Groups)
	}
	return s.String()
}

func toldDeliveries(l []node.Delivery) string {
	var s strings.Builder
	for _, d := range l {
		fmt.Fprintf(&s, "(%d %d %d %q %q)", d.Sub, d.Pub, d.Seq, fmt.Sprint(d.Event.Values), d.Event.Payload)
	}
	return s.String()
}

func toldOut(l []node.Out) string {
	var s strings.Builder
	for _, o := range l {
		fmt.Fprintf(&s, "(%d %x)", o.To, o.Text)
	}
	return s.String()
}

func toldMsg(m msg.Msg) string {
	switch m.Kind {
	case msg.Graft:
		if m.Any {
			return "Graft " + m.Group + " any"
		}
		return fmt.Sprintf("Graft %s %q", m.Group, append([]string{}, m.Filters...))
	case msg.Prune:
		return "Prune " + m.Group
	case msg.Route:
		return fmt.Sprintf("Route %s %d/%d hops %d %v", m.Group, m.Pub, m.Seq, m.Hops, m.Event)
	case msg.Down:
		return fmt.Sprintf("Down %s %d/%d %v", m.Group, m.Pub, m.Seq, m.Event)
	}
	return fmt.Sprintf("Confirm %s %d/%d", m.Group, m.Pub, m.Seq)
}
