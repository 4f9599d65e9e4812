package group_test

import (
	"errors"
	"fmt"
	"math"
	"math/rand"
	"reflect"
	"regexp"
	"slices"
	"strconv"
	"strings"
	"testing"

	"wigwag/api"
	"wigwag/dyad"
	"wigwag/group"
	"wigwag/ring"
	"wigwag/value"
)

func at(level, index int) dyad.Interval { return dyad.Interval{Level: level, Index: index} }

func number(name string, low, high int) value.Attr {
	return value.Attr{Name: name, Kind: value.Int, Min: low, Max: high}
}

func text(name string) value.Attr { return value.Attr{Name: name, Kind: value.Text} }

func in(name string, lo, hi int) value.Pred {
	return value.Pred{Name: name, Op: value.In, Lo: lo, Hi: hi}
}

func eq(name, s string) value.Pred { return value.Pred{Name: name, Op: value.Eq, Str: s} }

func prefix(name, s string) value.Pred { return value.Pred{Name: name, Op: value.Prefix, Str: s} }

func num(n int) value.Value { return value.Value{Num: n} }

func str(s string) value.Value { return value.Value{Str: s} }

func event(l ...value.Value) value.Event { return value.Event{Values: l} }

// shop is the chapter's schema.
func shop() value.Schema { return value.Schema{number("price", 0, 7), text("tag")} }

// wrongLevels are such numbers of levels as there are none of.
var wrongLevels = []int{-1, 9, -2, 10, -8, 16, 63, 64, 65, 1 << 40, math.MaxInt, math.MinInt}

// expectError asks for an error of this code; of ErrSchema with the Fault's place.
func expectError(t *testing.T, what string, err error, code api.Code, place int) {
	t.Helper()
	if !errors.Is(err, code) || api.Of(err) != code {
		t.Errorf("%s: %v, not %v", what, err, code)
		return
	}
	var f *api.Fault
	if code == api.ErrSchema && (!errors.As(err, &f) || f.At != place) {
		t.Errorf("%s: %#v, not At %d", what, err, place)
	}
}

// P8.1
func TestName(t *testing.T) {
	for i, x := range []struct {
		attr string
		x    dyad.Interval
		want string
	}{
		{"price", at(3, 1), "price.3.1"}, {"price", at(0, 0), "price.0.0"}, {"tag", at(8, 255), "tag.8.255"}, {"a", at(10, 1000000), "a.10.1000000"},
		{"", at(0, 0), ".0.0"}, {"A b.c", at(1, 1), "A b.c.1.1"}, {"x", at(-1, -20), "x.-1.-20"}, {"\xff", at(math.MaxInt, math.MinInt), "\xff.9223372036854775807.-9223372036854775808"},
	} {
		if got := group.Name(x.attr, x.x); got != x.want {
			t.Errorf("%d: Name(%q, %v) = %q, not %q", i, x.attr, x.x, got, x.want)
		}
	}
}

// P8.1: what Name tells, Read reads.
func TestReadOfNames(t *testing.T) {
	for levels := range api.MaxLevels + 1 {
		for _, name := range []string{"a", "price", "x9", "abcdefghijkl", "ina", "e5"} {
			for level := range levels + 2 {
				for index := range 1<<level + 1 {
					x := at(level, index)
					attr, got, err := group.Read(group.Name(name, x), levels)
					if !dyad.Good(x, levels) {
						expectNotRead(t, group.Name(name, x), levels)
					} else if attr != name || got != x || err != nil {
						t.Fatalf("Read(%q, %d) = %q, %v, %v", group.Name(name, x), levels, attr, got, err)
					}
				}
			}
		}
	}
}

func expectNotRead(t *testing.T, s string, levels int) {
	t.Helper()
	attr, x, err := group.Read(s, levels)
	if attr != "" || x != (dyad.Interval{}) {
		t.Errorf("Read(%q, %d) = %q, %v, %v", s, levels, attr, x, err)
	}
	expectError(t, fmt.Sprintf("Read(%q, %d)", s, levels), err, api.ErrForm, 0)
}

// P8.1
func TestReadOfWhatIsNoName(t *testing.T) {
	for _, s := range []string{
		"", ".", "..", "...", "price", "price.", "price..", "price.2", "price.2.", "price..1", ".2.1", "price.2.1.", "price.2.1.0", ".price.2.1", "price..2.1", "price.2..1", "price.2.1..", "2.1", "1", "price 2.1", "price,2,1",
		"price.02.1", "price.2.01", "price.00.0", "price.0.00", "price.2.000001", "price.+2.1", "price.2.+1", "price.-2.1", "price.2.-1", "price.-0.0", "price.0.-0", "price.+0.0", "price.0.+0", "price.--1.0", "price.0.0e0", "price.1e0.1", "price.0x2.1", "price.2.0x1", "price.2.1_0", "price.1_.0", "price.0b1.0", "price.0.0o0",
		" price.2.1", "price.2.1 ", "price .2.1", "price. 2.1", "price.2. 1", "price.2 .1", "price.2.1\n", "price.2.1\x00", "\x00", "price.two.1", "price.2.one", "price.².1", "price.٢.1", "price.2.１",
		"price.4.0", "price.2.4", "price.3.8", "price.0.1", "price.1.2", "price.9.0", "price.8.0", "price.255.0", "price.2.9223372036854775807", "price.2.9223372036854775808", "price.2.18446744073709551617", "price.18446744073709551618.1", "price.9223372036854775807.0", "price.2." + strings.Repeat("1", 3000), "price.2." + strings.Repeat("0", 3000) + "1",
		"X.0.0", "Price.2.1", "9.0.0", "0.0.0", "1a.0.0", "in.0.0", "and.0.0", "a_b.0.0", "a-b.0.0", "a b.0.0", "abcdefghijklm.0.0", "ä.0.0", "\xff.0.0", "-1.0.0", strings.Repeat("a", 5000) + ".0.0", strings.Repeat(".", 5000),
	} {
		expectNotRead(t, s, 3)
	}
	for _, levels := range wrongLevels {
		for _, s := range []string{"price.0.0", "price.1.1", "price.9.0", "price.10.0", "price.-1.0", "", "X.0.0", group.Name("price", at(levels, 0)), group.Name("price", at(levels, levels))} {
			expectNotRead(t, s, levels)
		}
	}
}

var nameForm = regexp.MustCompile(`^([a-z][a-z0-9]{0,11})\.(0|[1-9][0-9]*)\.(0|[1-9][0-9]*)$`)

// P8.1: many texts, most of them nearly names.
func TestReadOfMany(t *testing.T) {
	r := rand.New(rand.NewSource(81))
	counts := map[bool]int{}
	for range 100000 {
		levels := r.Intn(9)
		b := []byte(group.Name([]string{"a", "in", "price", "and", "x0"}[r.Intn(5)], at(r.Intn(10), r.Intn(1<<r.Intn(10)))))
		for range r.Intn(3) {
			i, c := r.Intn(len(b)+1), "0123456789.+-aA \x00\xff"[r.Intn(18)]
			if i == len(b) || r.Intn(3) == 0 {
				b = slices.Insert(b, i, c)
			} else if r.Intn(2) == 0 {
				b[i] = c
			} else {
				b = slices.Delete(b, i, i+1)
			}
		}
		s := string(b)
		good := false
		if m := nameForm.FindStringSubmatch(s); m != nil && m[1] != "in" && m[1] != "and" {
			level, _ := strconv.ParseFloat(m[2], 64)
			index, _ := strconv.ParseFloat(m[3], 64)
			good = level <= float64(levels) && index < math.Pow(2, level)
		}
		counts[good]++
		if !good {
			expectNotRead(t, s, levels)
		} else if attr, x, err := group.Read(s, levels); err != nil || group.Name(attr, x) != s {
			t.Errorf("Read(%q, %d) = %q, %v, %v", s, levels, attr, x, err)
		}
		if t.Failed() {
			return
		}
	}
	if counts[true] < 5000 || counts[false] < 5000 {
		t.Errorf("counts: %v", counts)
	}
}

// P8.1
func TestKey(t *testing.T) {
	for _, s := range []string{"", "price.3.1", "tag.8.255", "group ", " ", "\xff\x00", strings.Repeat("x", 1000)} {
		if got := group.Key(s); got != ring.Hash("group "+s) {
			t.Errorf("Key(%q) = %d", s, got)
		}
	}
	if group.Key("price.3.1") == ring.Hash("price.3.1") {
		t.Error("Key is Hash of the name alone")
	}
}

// P8.2
func TestChoose(t *testing.T) {
	wide := value.Schema{number("a", 0, 255), number("b", 0, 15), text("c"), number("d", -value.Most, value.Most)}
	for i, x := range []struct {
		s      value.Schema
		f      value.Filter
		levels int
		want   int
	}{
		{shop(), value.Filter{prefix("tag", "a"), in("price", 1, 6)}, 8, 0}, {shop(), value.Filter{in("price", 1, 6), prefix("tag", "a")}, 8, 1}, {shop(), value.Filter{in("price", 1, 6)}, 8, 0}, {shop(), value.Filter{eq("tag", "")}, 0, 0},
		// By ranges of equally many cells the first one.
		{shop(), value.Filter{in("price", 1, 6), eq("tag", "a")}, 0, 0}, {shop(), value.Filter{eq("tag", "a"), in("price", 1, 6)}, 0, 0}, {shop(), value.Filter{in("price", 3, 3), eq("tag", "a")}, 3, 0}, {shop(), value.Filter{eq("tag", "a"), in("price", 3, 3)}, 3, 0},
		{wide, value.Filter{in("a", 0, 3), in("b", 5, 5)}, 8, 1}, {wide, value.Filter{in("a", 9, 9), in("b", 5, 5)}, 8, 0}, {wide, value.Filter{in("b", 5, 5), in("a", 9, 9)}, 8, 0}, {wide, value.Filter{in("b", 5, 6), in("a", 9, 9)}, 8, 1},
		{wide, value.Filter{in("a", 10, 20), in("b", 5, 6), in("d", 0, 99)}, 8, 2}, {wide, value.Filter{in("a", 10, 20), in("b", 5, 6), eq("c", "x"), in("d", 0, 99)}, 8, 2}, {wide, value.Filter{in("d", 0, 99), in("a", 10, 20), eq("c", "x"), in("b", 5, 6)}, 8, 2},
		{wide, value.Filter{in("d", 0, value.Most), in("a", 0, 127), in("b", 0, 8)}, 8, 1}, {wide, value.Filter{in("d", 0, value.Most), in("a", 0, 127), in("b", 0, 7)}, 8, 2}, {wide, value.Filter{in("d", 1, value.Most), in("a", 0, 127)}, 8, 0}, {wide, value.Filter{in("b", 0, 7), in("a", 0, 127)}, 8, 0},
		// Fewer cells, not fewer numbers; a wide range may have one cell.
		{wide, value.Filter{in("a", 5, 6), in("d", 1, 1<<20)}, 8, 1}, {wide, value.Filter{in("b", 0, 1), in("a", 0, 31)}, 3, 0}, {wide, value.Filter{in("a", 31, 32), in("d", 0, 1)}, 3, 0}, {wide, value.Filter{in("a", 31, 32), in("d", 1, 2)}, 3, 1}, {wide, value.Filter{in("a", 0, 255), prefix("c", "a")}, 8, 1},
	} {
		if got, err := group.Choose(x.s, x.f, x.levels); got != x.want || err != nil {
			t.Errorf("%d: Choose(%v, %d) = %d, %v; not %d", i, x.f, x.levels, got, err, x.want)
		}
	}
}

// P8.2: the examples, and others.
func TestOf(t *testing.T) {
	for i, x := range []struct {
		f      value.Filter
		levels int
		want   string
	}{
		{value.Filter{in("price", 1, 6)}, 3, "price.3.1 price.2.1 price.2.2 price.3.6"}, {value.Filter{in("price", 0, 7)}, 3, "price.0.0"}, {value.Filter{in("price", 5, 5)}, 3, "price.3.5"}, {value.Filter{in("price", 5, 5)}, 0, "price.0.0"}, {value.Filter{in("price", 3, 4)}, 1, "price.0.0"}, {value.Filter{in("price", 4, 5)}, 1, "price.1.1"},
		{value.Filter{prefix("tag", "a"), in("price", 1, 6)}, 8, "tag.8.97"}, {value.Filter{in("price", 1, 6), prefix("tag", "a")}, 8, "tag.8.97"}, {value.Filter{in("price", 0, 0), eq("tag", "")}, 3, "price.3.0"}, {value.Filter{eq("tag", ""), in("price", 0, 0)}, 3, "tag.3.0"}, {value.Filter{eq("tag", "~~~")}, 8, "tag.8.126"},
		{value.Filter{in("price", 1, 6), eq("tag", "x")}, 0, "price.0.0"}, {value.Filter{eq("tag", "x"), in("price", 1, 6)}, 0, "tag.0.0"},
	} {
		if got, err := group.Of(shop(), x.f, x.levels); strings.Join(got, " ") != x.want || err != nil {
			t.Errorf("%d: Of(%v, %d) = %v, %v; not %s", i, x.f, x.levels, got, err, x.want)
		}
	}
}

// P8.2: the example, and others.
func TestReach(t *testing.T) {
	for i, x := range []struct {
		e      value.Event
		levels int
		want   string
	}{
		{event(num(5), str("")), 3, "price.0.0 price.1.1 price.2.2 price.3.5 tag.0.0 tag.1.0 tag.2.0 tag.3.0"}, {event(num(7), str("~")), 0, "price.0.0 tag.0.0"}, {event(num(0), str("a")), 1, "price.0.0 price.1.0 tag.0.0 tag.1.0"},
		{value.Event{Values: []value.Value{num(7), str("abc")}, Payload: strings.Repeat("\xff", 200)}, 8, "price.0.0 price.1.1 price.2.3 price.3.7 price.4.14 price.5.28 price.6.56 price.7.112 price.8.224 tag.0.0 tag.1.0 tag.2.1 tag.3.3 tag.4.6 tag.5.12 tag.6.24 tag.7.48 tag.8.97"},
	} {
		if got, err := group.Reach(shop(), x.e, x.levels); strings.Join(got, " ") != x.want || err != nil {
			t.Errorf("%d: Reach(%v, %d) = %v, %v; not %s", i, x.e, x.levels, got, err, x.want)
		}
	}
}

// expectRefused asks Choose and Of for this error, and for nothing beside it.
func expectRefused(t *testing.T, s value.Schema, f value.Filter, levels int, code api.Code, place int) {
	t.Helper()
	what := fmt.Sprintf("of %v: %v, %d levels", s, f, levels)
	i, err := group.Choose(s, f, levels)
	expectError(t, "Choose "+what, err, code, place)
	l, err := group.Of(s, f, levels)
	expectError(t, "Of "+what, err, code, place)
	if i != -1 || len(l) != 0 {
		t.Errorf("%s: Choose %d, Of %v", what, i, l)
	}
}

func expectNotReached(t *testing.T, s value.Schema, e value.Event, levels int, code api.Code, place int) {
	t.Helper()
	what := fmt.Sprintf("Reach of %v: %v, %d levels", s, e, levels)
	l, err := group.Reach(s, e, levels)
	expectError(t, what, err, code, place)
	if len(l) != 0 {
		t.Errorf("%s: %v", what, l)
	}
}

// P8.2, K2: the levels are asked first, then the schema, then the filter or the event.
func TestErrorsInOrder(t *testing.T) {
	badSchema := value.Schema{number("price", 0, 7), text("tag"), text("Tag")}
	goodFilter, badFilter := value.Filter{eq("tag", "x"), in("price", 1, 6)}, value.Filter{eq("tag", "x"), in("price", 1, 8)}
	goodEvent, badEvent := event(num(5), str("x")), event(num(5), num(5))
	for _, levels := range wrongLevels {
		for _, s := range []value.Schema{shop(), badSchema, nil} {
			for _, f := range []value.Filter{goodFilter, badFilter, nil} {
				expectRefused(t, s, f, levels, api.ErrArg, 0)
			}
			for _, e := range []value.Event{goodEvent, badEvent, {}} {
				expectNotReached(t, s, e, levels, api.ErrArg, 0)
			}
		}
	}
	for levels := range api.MaxLevels + 1 {
		for _, f := range []value.Filter{goodFilter, badFilter, nil} {
			expectRefused(t, badSchema, f, levels, api.ErrSchema, 2)
			expectRefused(t, nil, f, levels, api.ErrSchema, 0)
		}
		for _, e := range []value.Event{goodEvent, badEvent, {}, event(num(5), str("x"), str("y"))} {
			expectNotReached(t, badSchema, e, levels, api.ErrSchema, 2)
			expectNotReached(t, nil, e, levels, api.ErrSchema, 0)
		}
		expectRefused(t, shop(), badFilter, levels, api.ErrSchema, 1)
		expectNotReached(t, shop(), badEvent, levels, api.ErrSchema, 1)
	}
}

// P8.2: the schema's own errors.
func TestWhatTheSchemaRefuses(t *testing.T) {
	for i, x := range []struct {
		f     value.Filter
		place int
	}{
		{nil, 0}, {value.Filter{}, 0}, {value.Filter{in("tag", 0, 0)}, 0}, {value.Filter{eq("price", "x")}, 0}, {value.Filter{prefix("tag", "")}, 0}, {value.Filter{in("price", 6, 1)}, 0}, {value.Filter{in("price", -1, 1)}, 0}, {value.Filter{in("nobody", 1, 6)}, 0}, {value.Filter{eq("tag", "\xff")}, 0},
		{value.Filter{in("price", 1, 6), in("price", 1, 6)}, 1}, {value.Filter{in("price", 1, 6), {Name: "tag", Op: 4, Str: "x"}}, 1}, {value.Filter{in("price", 1, 6), eq("tag", "x"), eq("tag", "x")}, 2}, {value.Filter{in("price", 1, 6), eq("tag", "x"), eq("tag", "x"), eq("tag", "x"), eq("tag", "x")}, 0},
	} {
		if t.Failed() {
			t.Fatal(i)
		}
		expectRefused(t, shop(), x.f, 3, api.ErrSchema, x.place)
	}
	for i, x := range []struct {
		e     value.Event
		place int
	}{
		{value.Event{}, 0}, {event(num(5)), 0}, {event(num(5), str("x"), str("x")), 0}, {event(num(8), str("x")), 0}, {event(num(-1), str("x")), 0}, {event(num(5), str("\x1f")), 1}, {event(num(5), value.Value{Num: 1, Str: "x"}), 1}, {value.Event{Values: []value.Value{num(5), str("x")}, Payload: strings.Repeat("x", 201)}, 0},
	} {
		if t.Failed() {
			t.Fatal(i)
		}
		expectNotReached(t, shop(), x.e, 3, api.ErrSchema, x.place)
	}
	for _, s := range []value.Schema{{}, {number("price", 7, 0)}, {number("price", 0, value.Most+1)}, {{Name: "price", Kind: 3}}, {number("in", 0, 7)}} {
		expectRefused(t, s, value.Filter{in("price", 1, 6)}, 3, api.ErrSchema, 0)
		expectNotReached(t, s, event(num(5)), 3, api.ErrSchema, 0)
	}
}

func someText(r *rand.Rand) string {
	b := make([]byte, r.Intn(4))
	for i := range b {
		b[i] = " ab~@"[r.Intn(5)]
	}
	return string(b)
}

// someOfAll: a schema, a filter and an event of it.
func someOfAll(r *rand.Rand) (value.Schema, value.Filter, value.Event) {
	var s value.Schema
	var f value.Filter
	var e value.Event
	for i := range 1 + r.Intn(api.MaxAttrs) {
		name := string("abcd"[i : i+1])
		if r.Intn(3) == 0 {
			s, e.Values = append(s, text(name)), append(e.Values, str(someText(r)))
			f = append(f, value.Pred{Name: name, Op: value.Eq, Str: someText(r)})
			if r.Intn(3) > 0 {
				f[i] = prefix(name, someText(r)+" ")
			}
			continue
		}
		low := r.Intn(2*value.Most+1) - value.Most
		high := low + r.Intn(min(value.Most-low, 1<<r.Intn(34))+1)
		n := func() int { return low + r.Intn(high-low+1) }
		lo, hi := n(), n()
		s, e.Values, f = append(s, number(name, low, high)), append(e.Values, num(n())), append(f, in(name, min(lo, hi), max(lo, hi)))
	}
	r.Shuffle(len(f), func(i, j int) { f[i], f[j] = f[j], f[i] })
	return s, f[:1+r.Intn(len(f))], e
}

// taken: an event that the filter takes.
func taken(s value.Schema, f value.Filter, e value.Event, r *rand.Rand) value.Event {
	for _, p := range f {
		v := str(p.Str)
		if p.Op == value.In {
			v = num(p.Lo + r.Intn(p.Hi-p.Lo+1))
		} else if p.Op == value.Prefix {
			v = str(p.Str + someText(r))
		}
		e.Values[s.Find(p.Name)] = v
	}
	return e
}

// chosenByWords: the first one of the fewest cells.
func chosenByWords(s value.Schema, f value.Filter, levels int) int {
	best, fewest := -1, math.MaxInt
	for i, p := range slices.Backward(f) {
		lo, hi := dyad.Range(s[s.Find(p.Name)], p, levels)
		if hi-lo <= fewest {
			best, fewest = i, hi-lo
		}
	}
	return best
}

// meeting: how many groups two lists share.
func meeting(l, m []string) int {
	return len(slices.DeleteFunc(slices.Clone(l), func(s string) bool { return !slices.Contains(m, s) }))
}

// P8.2, P8.3: many schemas, filters and events.
func TestMany(t *testing.T) {
	r := rand.New(rand.NewSource(83))
	chosen := map[int]int{}
	for range 20000 {
		levels := r.Intn(9)
		s, f, e := someOfAll(r)
		best, err := group.Choose(s, f, levels)
		if want := chosenByWords(s, f, levels); best != want || err != nil {
			t.Fatalf("Choose(%v, %v, %d) = %d, %v; not %d", s, f, levels, best, err, want)
		}
		chosen[best]++
		of, err := group.Of(s, f, levels)
		var want []string
		lo, hi := dyad.Range(s[s.Find(f[best].Name)], f[best], levels)
		for _, x := range dyad.Cover(lo, hi, levels) {
			want = append(want, fmt.Sprintf("%s.%d.%d", f[best].Name, x.Level, x.Index))
		}
		if !slices.Equal(of, want) || len(of) == 0 || err != nil {
			t.Fatalf("Of(%v, %v, %d) = %v, %v; not %v", s, f, levels, of, err, want)
		}
		expectReach(t, s, e, levels)
		e = taken(s, f, e, r)
		reach := expectReach(t, s, e, levels)
		if !s.Match(f, e) || meeting(of, reach) != 1 || meeting(reach, of) != 1 {
			t.Fatalf("%v takes %v; %v and %v", f, e, of, reach)
		}
		if t.Failed() {
			return
		}
	}
	if chosen[0] < 100 || chosen[1] < 100 || chosen[2] < 100 || chosen[3] < 50 {
		t.Errorf("chosen: %v", chosen)
	}
}

// expectReach asks for the chapter's words of Reach, and for the number of groups.
func expectReach(t *testing.T, s value.Schema, e value.Event, levels int) []string {
	t.Helper()
	got, err := group.Reach(s, e, levels)
	var want []string
	for i := range s {
		cell := dyad.Cell(s[i], e.Values[i], levels)
		for level := range levels + 1 {
			want = append(want, fmt.Sprintf("%s.%d.%d", s[i].Name, level, cell>>(levels-level)))
		}
	}
	if !slices.Equal(got, want) || len(got) != len(s)*(levels+1) || err != nil {
		t.Fatalf("Reach(%v, %v, %d) = %v, %v; not %v", s, e, levels, got, err, want)
	}
	return got
}

// K3, K4: no call changes what it is handed, nor the spare room behind it; each answers the same again, also behind changed answers.
func TestNothingIsShared(t *testing.T) {
	s := append(shop(), number("spare", 1, 2), text("room"))[:2]
	f := append(value.Filter{in("price", 1, 6), prefix("tag", "a")}, in("spare", 1, 2))[:2]
	e := value.Event{Values: append([]value.Value{num(5), str("x")}, str("spare"))[:2]}
	ahead := fmt.Sprintf("%#v %#v %#v", s[:cap(s)], f[:cap(f)], e.Values[:cap(e.Values)])
	for _, levels := range []int{-1, 0, 3, 8, 9} {
		for range 2 {
			var all [2][]any
			for i := range all {
				best, refused := group.Choose(s, f, levels)
				of, ofErr := group.Of(s, f, levels)
				reach, reachErr := group.Reach(s, e, levels)
				all[i] = []any{best, refused, fmt.Sprint(of), ofErr, fmt.Sprint(reach), reachErr}
				for j := range of {
					of[j] = "changed"
				}
				for j := range reach {
					reach[j] = "changed"
				}
				_, _ = append(of, "more"), append(reach, "more")
			}
			if !reflect.DeepEqual(all[0], all[1]) {
				t.Errorf("%v, and then %v", all[0], all[1])
			}
		}
	}
	if now := fmt.Sprintf("%#v %#v %#v", s[:cap(s)], f[:cap(f)], e.Values[:cap(e.Values)]); now != ahead {
		t.Errorf("%s is %s now", ahead, now)
	}
}

// K3: an error that a caller changes is that caller's alone.
func TestErrorsAreNew(t *testing.T) {
	bad := value.Filter{in("price", 1, 6), in("price", 1, 6)}
	for i, call := range []func() error{
		func() error { _, err := group.Choose(shop(), bad, 3); return err },
		func() error { _, err := group.Of(shop(), bad, 3); return err },
		func() error { _, err := group.Reach(shop(), event(num(5), num(5)), 3); return err },
		func() error { _, err := group.Reach(append(shop(), text("Tag"))[1:], event(), 3); return err },
	} {
		var f *api.Fault
		if err := call(); !errors.As(err, &f) {
			t.Fatalf("%d: no fault: %v", i, err)
		}
		f.At, f.Err = 77, api.ErrHops
		expectError(t, fmt.Sprintf("%d: behind a changed answer", i), call(), api.ErrSchema, 1)
	}
}
