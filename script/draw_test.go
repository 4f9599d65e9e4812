package script_test

import (
	"fmt"
	"math"
	"math/rand"
	"strings"

	"wigwag/api"
	"wigwag/dyad"
	"wigwag/group"
	"wigwag/value"
)

// shop is the schema of the tests by hand.
func shop() value.Schema {
	return value.Schema{{Name: "price", Kind: value.Int, Max: 99}, {Name: "tag", Kind: value.Text}}
}

func sale(price int, tag string) value.Event {
	return value.Event{Values: []value.Value{{Num: price}, {Str: tag}}, Payload: "of " + tag}
}

// numbers is a schema that has as many groups as there may be of so many levels.
func numbers(most int) value.Schema {
	var s value.Schema
	for _, name := range []string{"a", "b", "c", "d"} {
		s = append(s, value.Attr{Name: name, Kind: value.Int, Max: most})
	}
	return s
}

// wish is what a filter asks of each attribute, told without layers 5 and 6.
type wish []ask

type ask struct {
	at     int // the attribute's place
	lo, hi int
	str    string
	whole  bool // the text is str; else it begins with it
}

func (w wish) text(s value.Schema) string {
	var l []string
	for _, p := range w {
		name := s[p.at].Name
		switch {
		case s[p.at].Kind == value.Int:
			l = append(l, fmt.Sprintf("%s in %d..%d", name, p.lo, p.hi))
		case p.whole:
			l = append(l, fmt.Sprintf("%s = %q", name, p.str))
		default:
			l = append(l, fmt.Sprintf("%s ^= %q", name, p.str))
		}
	}
	return strings.Join(l, " and ")
}

func (w wish) takes(s value.Schema, e value.Event) bool {
	for _, p := range w {
		v := e.Values[p.at]
		if s[p.at].Kind == value.Int {
			if v.Num < p.lo || p.hi < v.Num {
				return false
			}
		} else if !strings.HasPrefix(v.Str, p.str) || p.whole && len(v.Str) != len(p.str) {
			return false
		}
	}
	return true
}

// draw is dice that know what scripts are made of.
type draw struct {
	*rand.Rand
}

func newDraw(seed int) draw { return draw{rand.New(rand.NewSource(int64(seed)))} }

func one[T any](d draw, l []T) T { return l[d.Intn(len(l))] }

// wrong are ints that no node has as its address.
var wrong = []int{-1, -2, -32, 32, 33, 64, 1 << 40, math.MinInt, math.MaxInt}

// schema: one to four attributes.
func (d draw) schema() value.Schema {
	var s value.Schema
	for i := range 1 + d.Intn(4) {
		a := value.Attr{Name: string(rune('a'+i)) + one(d, []string{"", "1", "xyz"}), Kind: value.Text}
		switch d.Intn(6) {
		case 0:
			a = value.Attr{Name: a.Name, Kind: value.Int, Min: -1 << 31, Max: 1 << 31}
		case 1, 2, 3:
			low := d.Intn(40) - 20
			a = value.Attr{Name: a.Name, Kind: value.Int, Min: low, Max: low + d.Intn(30)}
		}
		s = append(s, a)
	}
	return s
}

func (d draw) str(most int) string {
	var b strings.Builder
	for range d.Intn(most + 1) {
		b.WriteByte(one(d, []byte(` Aa~"\`)))
	}
	return b.String()
}

func (d draw) num(lo, hi int) int { return lo + d.Intn(hi-lo+1) }

func (d draw) event(s value.Schema) value.Event {
	e := value.Event{Payload: one(d, []string{"", "x", "\x00\xff", strings.Repeat("p", 200)})}
	for _, a := range s {
		if a.Kind == value.Int {
			e.Values = append(e.Values, value.Value{Num: d.num(a.Min, a.Max)})
		} else {
			e.Values = append(e.Values, value.Value{Str: d.str(3)})
		}
	}
	return e
}

// wrongEvent: one that the schema refuses.
func (d draw) wrongEvent(s value.Schema) value.Event {
	e := d.event(s)
	at := d.Intn(len(s))
	switch d.Intn(4) {
	case 0:
		e.Values = e.Values[:at]
	case 1:
		e.Values = append(e.Values, value.Value{})
	case 2:
		e.Payload = strings.Repeat("p", 201)
	default:
		e.Values[at] = value.Value{Num: math.MaxInt, Str: "\n"}
	}
	return e
}

// wish: a filter that takes many events.
func (d draw) wish(s value.Schema) wish {
	var w wish
	for at, a := range s {
		if d.Intn(len(s)) > 0 && (len(w) > 0 || at < len(s)-1) {
			continue
		}
		p := ask{at: at, whole: d.Intn(2) == 0}
		switch {
		case a.Kind == value.Int:
			p.lo = d.num(a.Min, a.Max)
			p.hi = d.num(p.lo, a.Max)
			if p.whole {
				p.lo = d.num(a.Min, p.lo)
			}
		case p.whole:
			p.str = d.str(2)
		default:
			p.str = d.str(1) + "a"
		}
		w = append(w, p)
	}
	d.Shuffle(len(w), func(i, j int) { w[i], w[j] = w[j], w[i] })
	return w
}

// wrongText: one that is no filter of the schema.
func (d draw) wrongText(s value.Schema) string {
	right := d.wish(s).text(s)
	return one(d, []string{
		"", right + " and", right + " or " + right, right + " and " + right, "zz in 1..2",
		s[0].Name, s[0].Name + " in", s[0].Name + " in 9..3", s[0].Name + ` = "a`, right + strings.Repeat(" ", 301),
	})
}

// groupsOf: the names of all groups of a schema.
func groupsOf(s value.Schema, levels int) []string {
	var l []string
	for _, a := range s {
		for level := range levels + 1 {
			for i := range 1 << level {
				l = append(l, group.Name(a.Name, dyad.Interval{Level: level, Index: i}))
			}
		}
	}
	return l
}

// places: one of several ways to draw places.
func (d draw) places(names []string) func() api.Id {
	foot := group.Key(one(d, names))
	switch d.Intn(5) {
	case 0:
		// Each place is half as far ahead of the foot as another one, so that ways are long.
		return func() api.Id { return foot - 1<<d.Intn(64) }
	case 1:
		return func() api.Id { return foot + api.Id(d.Intn(60)) }
	case 2:
		// At a group's key, and just beside it.
		return func() api.Id {
			if d.Intn(9) == 0 {
				return api.Id(d.Uint64())
			}
			return group.Key(one(d, names)) + api.Id(d.Intn(3)) - 1
		}
	}
	return func() api.Id { return api.Id(d.Uint64()) }
}

// base: places that differ, as many as there are base members.
func (d draw) base(place func() api.Id) []api.Id {
	seen := map[api.Id]bool{}
	var l []api.Id
	for len(l) < 4 {
		if x := place(); !seen[x] {
			seen[x] = true
			l = append(l, x)
		}
	}
	return l
}
