package world_test

import (
	"fmt"
	"math/rand"
	"strings"

	"wigwag/api"
	"wigwag/dyad"
	"wigwag/group"
	"wigwag/value"
)

// shop is the schema of the tests by hand.
func shop() value.Schema {
	return value.Schema{{Name: "price", Kind: value.Int, Max: 99}, {Name: "tag", Kind: value.Text}}
}

func sale(price int, tag string) value.Event {
	return value.Event{Values: []value.Value{{Num: price}, {Str: tag}}, Payload: fmt.Sprint(price, tag)}
}

// pred is one predicate, told without layers 5 and 6.
type pred struct {
	at     int // the attribute's place
	lo, hi int
	str    string
	whole  bool // the text is str; else it begins with it
}

// wish is a filter, likewise.
type wish []pred

func (w wish) text(s value.Schema) string {
	var l []string
	for _, p := range w {
		switch {
		case s[p.at].Kind == value.Int:
			l = append(l, fmt.Sprintf("%s in %d..%d", s[p.at].Name, p.lo, p.hi))
		case p.whole:
			l = append(l, fmt.Sprintf("%s = \"%s\"", s[p.at].Name, p.str))
		default:
			l = append(l, fmt.Sprintf("%s ^= \"%s\"", s[p.at].Name, p.str))
		}
	}
	return strings.Join(l, " and ")
}

func (w wish) takes(s value.Schema, e value.Event) bool {
	for _, p := range w {
		v := e.Values[p.at]
		switch {
		case s[p.at].Kind == value.Int:
			if v.Num < p.lo || v.Num > p.hi {
				return false
			}
		case p.whole:
			if v.Str != p.str {
				return false
			}
		case !strings.HasPrefix(v.Str, p.str):
			return false
		}
	}
	return true
}

// draw is dice that know what worlds are made of.
type draw struct {
	*rand.Rand
}

func newDraw(seed int) draw { return draw{rand.New(rand.NewSource(int64(seed)))} }

func one[T any](d draw, l []T) T { return l[d.Intn(len(l))] }

// schema: one to four attributes.
func (d draw) schema() value.Schema {
	var s value.Schema
	for i := range 1 + d.Intn(4) {
		a := value.Attr{Name: string(rune('a'+i)) + one(d, []string{"", "1", "xyz"}), Kind: value.Text}
		if d.Intn(3) > 0 {
			low := d.Intn(40) - 20
			a = value.Attr{Name: a.Name, Kind: value.Int, Min: low, Max: low + d.Intn(30)}
		}
		s = append(s, a)
	}
	return s
}

func (d draw) str(most int) string {
	var b strings.Builder
	for range d.Intn(most + 1) {
		b.WriteByte(one(d, []byte(" Aa~")))
	}
	return b.String()
}

func (d draw) event(s value.Schema) value.Event {
	e := value.Event{Payload: d.str(5)}
	for _, a := range s {
		if a.Kind == value.Int {
			e.Values = append(e.Values, value.Value{Num: a.Min + d.Intn(a.Max-a.Min+1)})
		} else {
			e.Values = append(e.Values, value.Value{Str: d.str(3)})
		}
	}
	return e
}

// wish: a filter that takes many events.
func (d draw) wish(s value.Schema) wish {
	var w wish
	for i, a := range s {
		if d.Intn(len(s)) > 0 && (len(w) > 0 || i < len(s)-1) {
			continue
		}
		p := pred{at: i}
		if a.Kind == value.Int {
			p.lo = a.Min + d.Intn(a.Max-a.Min+1)
			p.hi = p.lo + d.Intn(a.Max-p.lo+1)
			if d.Intn(2) == 0 {
				p.lo = a.Min + d.Intn(p.lo-a.Min+1)
			}
		} else if p.whole = d.Intn(2) == 0; p.whole {
			p.str = d.str(2)
		} else {
			p.str = d.str(1) + "a"
		}
		w = append(w, p)
	}
	d.Shuffle(len(w), func(i, j int) { w[i], w[j] = w[j], w[i] })
	return w
}

// groupsOf: the names of all groups of a schema.
func groupsOf(s value.Schema, levels int) []string {
	var l []string
	for _, a := range s {
		for level := range levels + 1 {
			for i := range 1 << level {
				l = append(l, group.Name(a.Name, dyad.Interval{Level: level, Index: i}))
			}
		}
	}
	return l
}

// places: one of several ways to draw places.
func (d draw) places(names []string) func() api.Id {
	foot := api.Id(d.Uint64())
	if d.Intn(2) == 0 {
		foot = group.Key(one(d, names))
	}
	switch d.Intn(6) {
	case 0:
		// Each place is half as far ahead of the foot as another one, so that ways are long.
		return func() api.Id { return foot - 1<<d.Intn(64) }
	case 1:
		return func() api.Id { return foot + api.Id(d.Intn(60)) }
	case 2:
		return func() api.Id { return group.Key(one(d, names)) + api.Id(d.Intn(40)) - 20 }
	case 3:
		// At a group's key, and just beside it.
		return func() api.Id {
			if d.Intn(9) == 0 {
				return api.Id(d.Uint64())
			}
			return group.Key(one(d, names)) + api.Id(d.Intn(3)) - 1
		}
	}
	return func() api.Id { return api.Id(d.Uint64()) }
}

// base: places that differ, as many as there are base members.
func (d draw) base(place func() api.Id) []api.Id {
	seen := map[api.Id]bool{}
	var l []api.Id
	for len(l) < 4 {
		if x := place(); !seen[x] {
			seen[x] = true
			l = append(l, x)
		}
	}
	return l
}
