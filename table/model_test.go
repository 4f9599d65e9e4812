package table_test

import (
	"fmt"
	"maps"
	"math"
	"math/rand"
	"slices"
	"sort"
	"strings"
	"testing"

	"wigwag/api"
	"wigwag/group"
	"wigwag/table"
)

const top = api.Id(math.MaxUint64)

// place is what no two entries of a table share.
type place struct {
	group string
	child int
}

// both is a table, and the same told a second time.
type both struct {
	t      *testing.T
	x      *table.Table
	at     map[place]table.Entry
	named  map[string]int // all groups that were ever named
	counts map[string]int // what was met on the way
}

func start(t *testing.T) *both {
	return &both{t: t, x: &table.Table{}, at: map[place]table.Entry{}, named: map[string]int{}, counts: map[string]int{}}
}

// wants: the filters of all of them, each once, rising; and whether all is wanted.
func wants(l ...table.Entry) ([]string, bool) {
	each := map[string]bool{}
	all := false
	for _, e := range l {
		all = all || e.Any
		for _, f := range e.Filters {
			each[f] = true
		}
	}
	if all || len(each) > 16 {
		return nil, true
	}
	return slices.Sorted(maps.Keys(each)), false
}

func cleaned(e table.Entry) table.Entry {
	e.Filters, e.Any = wants(e)
	return e
}

// told: entries as one text; a nil list is as an empty one.
func told(l []table.Entry) string {
	var s strings.Builder
	for _, e := range l {
		fmt.Fprintf(&s, "(%q %d %q %v %d)", e.Group, e.Child, append([]string{}, e.Filters...), e.Any, e.Till)
	}
	return s.String()
}

// met: is x met on the way from a on to b, told without distances?
func met(x, a, b api.Id) bool {
	switch {
	case a == b:
		return true
	case a < b:
		return a < x && x <= b
	}
	return x > a || x <= b
}

// those: the entries of which it is true, in order.
func (b *both) those(is func(table.Entry) bool) []table.Entry {
	var l []table.Entry
	for _, e := range b.at {
		if is(e) {
			l = append(l, e)
		}
	}
	sort.Slice(l, func(i, j int) bool {
		if l[i].Group == l[j].Group {
			return l[i].Child < l[j].Child
		}
		return l[i].Group < l[j].Group
	})
	return l
}

// gone: the same, and they go.
func (b *both) gone(is func(table.Entry) bool) []table.Entry {
	l := b.those(is)
	for _, e := range l {
		delete(b.at, place{e.Group, e.Child})
	}
	return l
}

// check asks for the whole table by each call that changes nothing.
func (b *both) check(what string) {
	b.t.Helper()
	groups := map[string]int{}
	for p := range b.at {
		groups[p.group]++
	}
	names := slices.Sorted(maps.Keys(groups))
	if got := b.x.Groups(); !slices.Equal(got, names) || b.x.Len() != len(b.at) {
		b.t.Fatalf("%s: Groups = %q, Len = %d; not %q, %d", what, got, b.x.Len(), names, len(b.at))
	}
	for name := range b.named {
		want := b.those(func(e table.Entry) bool { return e.Group == name })
		if got := b.x.Children(name); told(got) != told(want) {
			b.t.Fatalf("%s: Children(%q) = %s; not %s", what, name, told(got), told(want))
		}
	}
}

func (b *both) put(e table.Entry) {
	b.t.Helper()
	b.named[e.Group]++
	want := api.OK
	if _, here := b.at[place{e.Group, e.Child}]; here {
		b.counts["put again"]++
	} else if len(b.at) == 400 {
		want = api.ErrFull
		b.counts["full"]++
	}
	if want == api.OK {
		b.at[place{e.Group, e.Child}] = cleaned(e)
	}
	if err := b.x.Put(e); api.Of(err) != want {
		b.t.Fatalf("Put(%s): %v, not %v", told([]table.Entry{e}), err, want)
	}
}

func (b *both) drop(name string, child int) {
	b.t.Helper()
	b.named[name]++
	want := api.OK
	if len(b.gone(func(e table.Entry) bool { return e.Group == name && e.Child == child })) == 0 {
		want = api.ErrNone
	}
	b.counts["drop "+want.Error()]++
	if err := b.x.Drop(name, child); api.Of(err) != want {
		b.t.Fatalf("Drop(%q, %d): %v, not %v", name, child, err, want)
	}
}

func (b *both) expire(now int) {
	b.t.Helper()
	want := len(b.gone(func(e table.Entry) bool { return !(e.Till >= now) }))
	b.counts["expired"] += want
	if got := b.x.Expire(now); got != want {
		b.t.Fatalf("Expire(%d) = %d, not %d", now, got, want)
	}
}

func (b *both) forget(child int) {
	b.t.Helper()
	want := len(b.gone(func(e table.Entry) bool { return e.Child == child }))
	b.counts["forgotten"] += want
	if got := b.x.Forget(child); got != want {
		b.t.Fatalf("Forget(%d) = %d, not %d", child, got, want)
	}
}

func (b *both) move(from, to api.Id) {
	b.t.Helper()
	want := b.gone(func(e table.Entry) bool { return met(group.Key(e.Group), from, to) })
	b.counts["moved"] += len(want)
	if got := b.x.Move(from, to); told(got) != told(want) {
		b.t.Fatalf("Move(%d, %d) = %s; not %s", from, to, told(got), told(want))
	}
}

// join asks what the entries of some groups want together.
func (b *both) join(names ...string) {
	b.t.Helper()
	var l []table.Entry
	for _, name := range names {
		l = append(l, b.x.Children(name)...)
	}
	want, all := wants(l...)
	if got, any := table.Join(l); !slices.Equal(got, want) || any != all {
		b.t.Fatalf("Join(%s) = %q, %v; not %q, %v", told(l), got, any, want, all)
	}
	b.counts[fmt.Sprint("join ", all)]++
}

// draw is the names and numbers of a random run.
type draw struct {
	dice     *rand.Rand
	names    []string
	children int
	filters  int
}

func (d draw) name() string { return d.names[d.dice.Intn(len(d.names))] }

func (d draw) child() int { return d.dice.Intn(d.children) - 2 }

func (d draw) till() int { return d.dice.Intn(9) - 1 }

func (d draw) entry() table.Entry {
	e := table.Entry{Group: d.name(), Child: d.child(), Any: d.dice.Intn(12) == 0, Till: d.till()}
	for range d.dice.Intn(d.filters) {
		e.Filters = append(e.Filters, fmt.Sprint("f", d.dice.Intn(d.filters)))
	}
	return e
}

// where: a place at a group's key, beside it, or anywhere.
func (d draw) where() api.Id {
	switch d.dice.Intn(8) {
	case 0:
		return api.Id(d.dice.Uint64())
	case 1:
		return []api.Id{0, 1, top, top - 1}[d.dice.Intn(4)]
	}
	return group.Key(d.name()) + api.Id(d.dice.Intn(3)) - 1
}

// step is one call, drawn; of those that take many away there are few.
func (b *both) step(d draw, rare int) {
	b.t.Helper()
	switch n := d.dice.Intn(12 * rare); {
	case n == 0:
		b.expire(d.till())
	case n == 1:
		b.forget(d.child())
	case n == 2:
		b.move(d.where(), d.where())
	case n == 3:
		from := d.where()
		b.move(from, from+api.Id(d.dice.Intn(2)))
	case n < 4+3*rare:
		b.drop(d.name(), d.child())
	case n < 4+4*rare:
		b.join(d.name(), d.name())
	default:
		b.put(d.entry())
	}
}

// P13.1: long rows of calls; behind each of them the whole table is held against the chapter's words.
func TestLongRows(t *testing.T) {
	names := []string{"", "\x00", "A", "a", "a.10", "a.2", "b", "price.3.1", "\xff"}
	counts := map[string]int{}
	for seed := range 60 {
		b := start(t)
		b.counts = counts
		d := draw{dice: rand.New(rand.NewSource(int64(seed))), names: names, children: 6, filters: 24}
		for i := range 300 {
			b.step(d, 1+seed%4)
			b.check(fmt.Sprint("seed ", seed, ", call ", i))
		}
	}
	for _, what := range []string{"put again", "drop ok", "drop none", "expired", "forgotten", "moved", "join true", "join false"} {
		if counts[what] < 100 {
			t.Errorf("%s: just %d", what, counts[what])
		}
	}
}

// P13.1: the same where the table is full most of the time.
func TestLongRowsFull(t *testing.T) {
	var names []string
	for i := range 30 {
		names = append(names, fmt.Sprint("g.", i))
	}
	counts := map[string]int{}
	for seed := range 6 {
		b := start(t)
		b.counts = counts
		d := draw{dice: rand.New(rand.NewSource(int64(1000 + seed))), names: names, children: 30, filters: 3}
		for i := range 3000 {
			b.step(d, 60)
			if i%10 == 0 || len(b.at) > 398 {
				b.check(fmt.Sprint("seed ", seed, ", call ", i))
			}
		}
	}
	if counts["full"] < 100 || counts["put again"] < 100 || counts["moved"] < 100 {
		t.Errorf("%v", counts)
	}
}
