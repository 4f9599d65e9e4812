package board_test

import (
	"fmt"
	"math"
	"math/rand"
	"strings"

	"wigwag/board"
	"wigwag/value"
)

// shop is the schema of the tests by hand.
func shop() value.Schema {
	return value.Schema{{Name: "price", Kind: value.Int, Max: 99}, {Name: "tag", Kind: value.Text}}
}

func sale(price int, tag string) value.Event {
	return value.Event{Values: []value.Value{{Num: price}, {Str: tag}}, Payload: "of " + tag}
}

// pred is one predicate, told without layers 5 and 6.
type pred struct {
	at     int // the attribute's place
	lo, hi int
	str    string
	whole  bool // the text is str; else it begins with it
}

// wish is a filter, likewise.
type wish []pred

func (w wish) text(s value.Schema) string {
	var l []string
	for _, p := range w {
		switch {
		case s[p.at].Kind == value.Int:
			l = append(l, fmt.Sprintf("%s in %d..%d", s[p.at].Name, p.lo, p.hi))
		case p.whole:
			l = append(l, fmt.Sprintf("%s = \"%s\"", s[p.at].Name, p.str))
		default:
			l = append(l, fmt.Sprintf("%s ^= \"%s\"", s[p.at].Name, p.str))
		}
	}
	return strings.Join(l, " and ")
}

func (w wish) takes(s value.Schema, e value.Event) bool {
	for _, p := range w {
		v := e.Values[p.at]
		switch {
		case s[p.at].Kind == value.Int:
			if v.Num < p.lo || v.Num > p.hi {
				return false
			}
		case p.whole:
			if v.Str != p.str {
				return false
			}
		case !strings.HasPrefix(v.Str, p.str):
			return false
		}
	}
	return true
}

// draw is dice that know what boards are made of.
type draw struct {
	*rand.Rand
}

func newDraw(seed int) draw { return draw{rand.New(rand.NewSource(int64(seed)))} }

func one[T any](d draw, l []T) T { return l[d.Intn(len(l))] }

// ints: a few that differ; any int may be a publisher, a node, a number.
func (d draw) ints(n int) []int {
	pool := []int{math.MinInt, math.MinInt + 1, -1 << 40, -1 << 32, -33, -2, -1, 0, 1, 2, 3, 10, 31, 32, 33, 1 << 31, 1 << 32, 1<<32 + 1, 1 << 62, math.MaxInt - 1, math.MaxInt}
	d.Shuffle(len(pool), func(i, j int) { pool[i], pool[j] = pool[j], pool[i] })
	return pool[:n]
}

// schema: one to four attributes.
func (d draw) schema() value.Schema {
	var s value.Schema
	for i := range 1 + d.Intn(4) {
		a := value.Attr{Name: string(rune('a'+i)) + one(d, []string{"", "1", "xyz"}), Kind: value.Text}
		if d.Intn(3) > 0 {
			low := d.Intn(40) - 20
			a = value.Attr{Name: a.Name, Kind: value.Int, Min: low, Max: low + d.Intn(10)}
		}
		s = append(s, a)
	}
	return s
}

func (d draw) str(most int) string {
	var b strings.Builder
	for range d.Intn(most + 1) {
		b.WriteByte(one(d, []byte(" Aa~")))
	}
	return b.String()
}

// event: of the schema; there is room behind its values that is not the board's.
func (d draw) event(s value.Schema) value.Event {
	e := value.Event{Values: make([]value.Value, 0, len(s)+d.Intn(3)), Payload: d.str(1)}
	for _, a := range s {
		if a.Kind == value.Int {
			e.Values = append(e.Values, value.Value{Num: a.Min + d.Intn(a.Max-a.Min+1)})
		} else {
			e.Values = append(e.Values, value.Value{Str: d.str(2)})
		}
	}
	return e
}

// wrongEvent: one that the schema refuses.
func (d draw) wrongEvent(s value.Schema) value.Event {
	e := d.event(s)
	at := d.Intn(len(s))
	switch d.Intn(6) {
	case 0:
		e.Values = e.Values[:at]
	case 1:
		e.Values = append(e.Values, value.Value{})
	case 2:
		e.Payload = strings.Repeat("p", 201+d.Intn(2))
	case 3:
		e.Values[at] = value.Value{Num: 1000, Str: "both"}
	case 4:
		e.Values[at] = value.Value{Num: math.MinInt}
	default:
		e.Values[at] = value.Value{Str: one(d, []string{"\n", strings.Repeat("a", 41), "\xff"})}
	}
	return e
}

// other: an event that isn't the same; of the schema, or not.
func (d draw) other(e value.Event) value.Event {
	e.Values = append([]value.Value(nil), e.Values...)
	at := d.Intn(len(e.Values))
	switch d.Intn(6) {
	case 0:
		e.Payload += "."
	case 1:
		e.Values[at].Num++
	case 2:
		e.Values[at].Str += "a"
	case 3:
		e.Values = e.Values[:at]
	case 4:
		e.Values = append(e.Values, value.Value{})
	default:
		e.Values[at].Num = -e.Values[at].Num - 1
	}
	return e
}

// wish: a filter that takes many events.
func (d draw) wish(s value.Schema) wish {
	var w wish
	for i, a := range s {
		if d.Intn(len(s)) > 0 && (len(w) > 0 || i < len(s)-1) {
			continue
		}
		p := pred{at: i}
		if a.Kind == value.Int {
			p.lo = a.Min + d.Intn(a.Max-a.Min+1)
			p.hi = p.lo + d.Intn(a.Max-p.lo+1)
			if d.Intn(2) == 0 {
				p.lo = a.Min + d.Intn(p.lo-a.Min+1)
			}
		} else if p.whole = d.Intn(2) == 0; p.whole {
			p.str = d.str(2)
		} else {
			p.str = d.str(1) + "a"
		}
		w = append(w, p)
	}
	d.Shuffle(len(w), func(i, j int) { w[i], w[j] = w[j], w[i] })
	return w
}

// wrongText: one that is no filter of the schema.
func (d draw) wrongText(s value.Schema) string {
	right := d.wish(s).text(s)
	return one(d, []string{
		"", " ", right + " and", right + " or " + right, right + " and " + right, "and " + right,
		"zz in 1..2", right + " and zz = \"a\"", s[0].Name, s[0].Name + " in 9..3", s[0].Name + " in -99..99",
		s[0].Name + " ^= \"\"", s[0].Name + " = \"a", s[0].Name + " = \"\x80\"", right + strings.Repeat(" ", 300),
	})
}

// named: subscriptions of these nodes with these numbers.
func named(nodes, subs []int) []board.Who {
	var l []board.Who
	for _, n := range nodes {
		for _, x := range subs {
			l = append(l, board.Who{Node: n, Sub: x})
		}
	}
	return l
}
