package value_test

import (
	"errors"
	"fmt"
	"math"
	"math/rand"
	"reflect"
	"regexp"
	"slices"
	"strings"
	"testing"

	"wigwag/api"
	"wigwag/value"
)

const right = -1 // the place at which an answer without an error tells a fault

// expectFault asks for ErrSchema with this place, or for nil.
func expectFault(t *testing.T, what string, err error, at int) {
	t.Helper()
	if at == right {
		if err != nil {
			t.Errorf("%s: %v", what, err)
		}
		return
	}
	var f *api.Fault
	if !errors.Is(err, api.ErrSchema) || api.Of(err) != api.ErrSchema || !errors.As(err, &f) {
		t.Errorf("%s: %v, not ErrSchema in a Fault", what, err)
	} else if f.At != at || f.Error() == "" {
		t.Errorf("%s: At %d, not %d", what, f.At, at)
	}
}

func number(name string, low, high int) value.Attr {
	return value.Attr{Name: name, Kind: value.Int, Min: low, Max: high}
}

func text(name string) value.Attr { return value.Attr{Name: name, Kind: value.Text} }

func in(name string, lo, hi int) value.Pred {
	return value.Pred{Name: name, Op: value.In, Lo: lo, Hi: hi}
}

func eq(name, s string) value.Pred { return value.Pred{Name: name, Op: value.Eq, Str: s} }

func prefix(name, s string) value.Pred { return value.Pred{Name: name, Op: value.Prefix, Str: s} }

func num(n int) value.Value { return value.Value{Num: n} }

func str(s string) value.Value { return value.Value{Str: s} }

func event(l ...value.Value) value.Event { return value.Event{Values: l} }

// shop is the chapter's schema.
func shop() value.Schema { return value.Schema{number("price", 0, 99), text("tag")} }

// P5.1
func TestName(t *testing.T) {
	for s, want := range map[string]bool{
		"": false, "a": true, "z": true, "0": false, "9": false, "a0": true, "z9": true, "0a": false, "9z": false,
		"abcdefghijkl": true, "abcdefghijklm": false, "a23456789012": true, "a234567890123": false, "123456789012": false,
		"in": false, "and": false, "ina": true, "an": true, "i": true, "n": true, "inn": true, "andy": true, "band": true, "in0": true, "nd": true,
		"A": false, "aB": false, "In": false, "a b": false, " a": false, "a ": false, "a_b": false, "a-b": false, "`a": false, "{": false,
		"a`": false, "a{": false, "a/": false, "a:": false, "a@": false, "a\x00": false, "\x00": false, "ä": false, "a\xe4": false, "\xff": false,
	} {
		if got := value.Name(s); got != want {
			t.Errorf("Name(%q) = %v", s, got)
		}
	}
	form := regexp.MustCompile(`^[a-z][a-z0-9]{0,11}$`)
	for first := range 256 {
		for _, s := range []string{string([]byte{byte(first)}), "q" + string([]byte{byte(first)}), "qq" + string([]byte{byte(first)}) + "q"} {
			if want := form.MatchString(s); value.Name(s) != want {
				t.Errorf("Name(%q) isn't %v", s, want)
			}
		}
	}
	for n := range 40 {
		if s := strings.Repeat("x", n); value.Name(s) != (n >= 1 && n <= value.MaxName) {
			t.Errorf("Name of %d bytes = %v", n, value.Name(s))
		}
	}
}

// P5.1
func TestStr(t *testing.T) {
	for b := range 256 {
		for _, ahead := range []int{0, 1, 39} {
			s := strings.Repeat("~", ahead) + string([]byte{byte(b)})
			if want := b >= 32 && b <= 126; value.Str(s) != want {
				t.Errorf("Str(%q) isn't %v", s, want)
			}
		}
	}
	for n := range 100 {
		for _, s := range []string{" ", "a", "~", "\"", "\\"} {
			if got := value.Str(strings.Repeat(s, n)); got != (n <= value.MaxStr) {
				t.Errorf("Str of %d times %q = %v", n, s, got)
			}
		}
	}
	if value.Str("\x1f") || value.Str("\x7f") || value.Str("a\nb") || value.Str("ä") || !value.Str("") || !value.Str("in") {
		t.Error("Str of bytes at the borders")
	}
}

// P5.1
func TestCheck(t *testing.T) {
	low, high := -value.Most, value.Most
	a, b, c, d, e := number("a", 0, 9), text("b"), number("c", low, high), text("d"), number("e", 1, 1)
	for i, x := range []struct {
		s  value.Schema
		at int
	}{
		{shop(), right}, {value.Schema{a}, right}, {value.Schema{b}, right}, {value.Schema{a, b, c, d}, right}, {value.Schema{d, e, b, a}, right},
		{nil, 0}, {value.Schema{}, 0}, {value.Schema{a, b, c, d, e}, 0}, {value.Schema{a, b, c, d, a}, 0}, {value.Schema{a, b, text("in"), d, e, a}, 0},
		{value.Schema{a, a}, 1}, {value.Schema{a, text("a")}, 1}, {value.Schema{b, a, b}, 2}, {value.Schema{a, b, b, a}, 2}, {value.Schema{a, b, c, a}, 3},
		{value.Schema{number("x", low, high)}, right}, {value.Schema{number("x", low, low)}, right}, {value.Schema{number("x", high, high)}, right}, {value.Schema{number("x", 0, 0)}, right},
		{value.Schema{number("x", low-1, high)}, 0}, {value.Schema{number("x", low, high+1)}, 0}, {value.Schema{number("x", low-1, low-1)}, 0}, {value.Schema{number("x", high+1, high+1)}, 0},
		{value.Schema{number("x", 1, 0)}, 0}, {value.Schema{number("x", high, low)}, 0}, {value.Schema{number("x", math.MinInt, math.MaxInt)}, 0}, {value.Schema{number("x", math.MaxInt, math.MinInt)}, 0},
		{value.Schema{a, number("x", 1, 0)}, 1}, {value.Schema{a, b, c, number("x", low-1, 0)}, 3},
		{value.Schema{{Name: "x", Kind: value.Text, Min: 1}}, 0}, {value.Schema{{Name: "x", Kind: value.Text, Max: 1}}, 0}, {value.Schema{{Name: "x", Kind: value.Text, Min: -1, Max: 1}}, 0}, {value.Schema{a, {Name: "x", Kind: value.Text, Max: -1}}, 1},
		{value.Schema{{Name: "x"}}, 0}, {value.Schema{{Name: "x", Kind: 3}}, 0}, {value.Schema{{Name: "x", Kind: -1}}, 0}, {value.Schema{b, a, {Name: "x", Kind: 3}}, 2}, {value.Schema{{}}, 0}, {value.Schema{a, {}}, 1},
		{value.Schema{text("in")}, 0}, {value.Schema{number("and", 0, 1)}, 0}, {value.Schema{text("")}, 0}, {value.Schema{a, text("B")}, 1}, {value.Schema{a, text("abcdefghijklm")}, 1}, {value.Schema{a, text("abcdefghijkl")}, right},
		{value.Schema{a, text("1"), text("")}, 1}, {value.Schema{a, a, text("")}, 1}, {value.Schema{a, number("x", 2, 1), a}, 1},
	} {
		expectFault(t, fmt.Sprintf("%d: Check of %v", i, x.s), x.s.Check(), x.at)
	}
}

// P5.1
func TestFind(t *testing.T) {
	s := value.Schema{text("b"), number("a", 0, 1), text("b"), {Name: "", Kind: 9}, text("in"), text("c")}
	for name, want := range map[string]int{"b": 0, "a": 1, "": 3, "in": 4, "c": 5, "d": -1, "A": -1, "bb": -1, "a ": -1} {
		if got := s.Find(name); got != want {
			t.Errorf("Find(%q) = %d, not %d", name, got, want)
		}
	}
	for _, s := range []value.Schema{nil, {}} {
		if got := s.Find(""); got != -1 {
			t.Errorf("Find in none = %d", got)
		}
	}
}

// P5.1
func TestEvent(t *testing.T) {
	low, high := -value.Most, value.Most
	s := value.Schema{number("a", -3, 5), text("b"), number("c", low, high), text("d")}
	long := strings.Repeat("x", value.MaxStr)
	for i, x := range []struct {
		e  value.Event
		at int
	}{
		{event(num(0), str(""), num(0), str("")), right}, {event(num(-3), str("~"), num(low), str(long)), right}, {event(num(5), str(" "), num(high), str("a\"\\")), right},
		{event(), 0}, {event(num(0)), 0}, {event(num(0), str(""), num(0)), 0}, {event(num(0), str(""), num(0), str(""), num(0)), 0}, {event(num(0), str("\n"), num(0)), 0},
		{event(num(-4), str(""), num(0), str("")), 0}, {event(num(6), str(""), num(0), str("")), 0}, {event(num(math.MinInt), str(""), num(0), str("")), 0}, {event(num(math.MaxInt), str(""), num(0), str("")), 0},
		{event(num(0), str(""), num(low-1), str("")), 2}, {event(num(0), str(""), num(high+1), str("")), 2}, {event(num(0), str(""), num(high+1), str("\n")), 2},
		{event(value.Value{Num: 1, Str: "x"}, str(""), num(0), str("")), 0}, {event(num(0), str(""), value.Value{Str: "x"}, str("")), 2}, {event(num(0), str(""), value.Value{Num: 7, Str: " "}, str("")), 2},
		{event(num(0), value.Value{Num: 1, Str: "x"}, num(0), str("")), 1}, {event(num(0), num(1), num(0), str("")), 1}, {event(num(0), str(""), num(0), num(-1)), 3}, {event(num(0), num(1), num(0), num(1)), 1},
		{event(num(0), str(long+"x"), num(0), str("")), 1}, {event(num(0), str(""), num(0), str(long+"x")), 3}, {event(num(0), str("\x1f"), num(0), str("")), 1}, {event(num(0), str(""), num(0), str("\x7f")), 3},
	} {
		expectFault(t, fmt.Sprintf("%d: Event(%.200q)", i, fmt.Sprint(x.e)), s.Event(x.e), x.at)
	}
}

// P5.1: any bytes are a payload, at most 200 of them; of a longer one and a wrong value the payload comes first.
func TestPayload(t *testing.T) {
	for n := range 300 {
		at, wrongAt := right, 1
		if n > 200 {
			at, wrongAt = 0, 0
		}
		for _, b := range []string{"\x00", "a", "\xff"} {
			e := event(num(5), str("abc"))
			e.Payload = strings.Repeat(b, n)
			expectFault(t, fmt.Sprintf("a payload of %d bytes", n), shop().Event(e), at)
			e.Values[1].Num = 1
			expectFault(t, fmt.Sprintf("a payload of %d bytes, and a wrong value", n), shop().Event(e), wrongAt)
		}
	}
}

// P5.1
func TestFilter(t *testing.T) {
	low, high := -value.Most, value.Most
	s := value.Schema{number("a", -3, 5), text("b"), number("c", low, high), text("d")}
	long := strings.Repeat("x", value.MaxStr)
	a, b, c, d := in("a", 0, 1), eq("b", "x"), in("c", low, high), prefix("d", "x")
	for i, x := range []struct {
		f  value.Filter
		at int
	}{
		{value.Filter{a}, right}, {value.Filter{b}, right}, {value.Filter{a, b, c, d}, right}, {value.Filter{d, c, b, a}, right}, {value.Filter{c, a}, right},
		{nil, 0}, {value.Filter{}, 0}, {value.Filter{a, b, c, d, a}, 0}, {value.Filter{a, b, c, d, in("x", 0, 0)}, 0}, {value.Filter{a, in("x", 0, 0), b, c, d}, 0},
		{value.Filter{a, a}, 1}, {value.Filter{a, in("a", 2, 3)}, 1}, {value.Filter{b, a, prefix("b", "y")}, 2}, {value.Filter{a, b, b, a}, 2}, {value.Filter{d, b, c, d}, 3},
		{value.Filter{in("x", 0, 0)}, 0}, {value.Filter{a, in("", 0, 0)}, 1}, {value.Filter{a, b, eq("aa", "")}, 2}, {value.Filter{eq("B", "")}, 0},
		{value.Filter{in("a", -3, 5)}, right}, {value.Filter{in("a", -3, -3)}, right}, {value.Filter{in("a", 5, 5)}, right}, {value.Filter{in("c", low, low)}, right}, {value.Filter{in("c", high, high)}, right},
		{value.Filter{in("a", -4, 5)}, 0}, {value.Filter{in("a", -3, 6)}, 0}, {value.Filter{in("a", 6, 6)}, 0}, {value.Filter{in("a", -4, -4)}, 0}, {value.Filter{in("a", math.MinInt, math.MaxInt)}, 0},
		{value.Filter{in("a", 1, 0)}, 0}, {value.Filter{in("a", 5, -3)}, 0}, {value.Filter{in("a", math.MaxInt, math.MinInt)}, 0}, {value.Filter{b, in("c", low-1, 0)}, 1}, {value.Filter{b, in("c", 0, high+1)}, 1}, {value.Filter{b, in("c", 1, 0)}, 1},
		{value.Filter{{Name: "a", Op: value.In, Hi: 1, Str: "x"}}, 0}, {value.Filter{b, {Name: "a", Op: value.In, Hi: 1, Str: " "}}, 1},
		{value.Filter{in("b", 0, 0)}, 0}, {value.Filter{a, in("d", 0, 0)}, 1}, {value.Filter{eq("a", "")}, 0}, {value.Filter{eq("a", "x")}, 0}, {value.Filter{prefix("c", "x")}, 0}, {value.Filter{b, prefix("a", "x")}, 1},
		{value.Filter{eq("b", "")}, right}, {value.Filter{eq("b", long)}, right}, {value.Filter{eq("b", " ~\"\\")}, right}, {value.Filter{eq("b", long+"x")}, 0}, {value.Filter{eq("b", "\x1f")}, 0}, {value.Filter{a, eq("b", "\x7f")}, 1},
		{value.Filter{prefix("b", "")}, 0}, {value.Filter{a, c, prefix("b", "")}, 2}, {value.Filter{prefix("b", " ")}, right}, {value.Filter{prefix("b", long)}, right}, {value.Filter{prefix("b", long+"x")}, 0}, {value.Filter{prefix("b", "a\n")}, 0},
		{value.Filter{{Name: "b", Op: value.Eq, Lo: 1, Str: "x"}}, 0}, {value.Filter{{Name: "b", Op: value.Eq, Hi: 1, Str: "x"}}, 0}, {value.Filter{{Name: "b", Op: value.Prefix, Lo: -1, Str: "x"}}, 0}, {value.Filter{a, {Name: "b", Op: value.Prefix, Hi: 1, Str: "x"}}, 1},
		{value.Filter{{Name: "a"}}, 0}, {value.Filter{{Name: "b", Str: "x"}}, 0}, {value.Filter{{Name: "a", Op: 4}}, 0}, {value.Filter{{Name: "b", Op: 4, Str: "x"}}, 0}, {value.Filter{a, {Name: "b", Op: -1}}, 1}, {value.Filter{{}}, 0},
		{value.Filter{a, prefix("b", ""), in("x", 0, 0)}, 1}, {value.Filter{a, a, prefix("b", "")}, 1},
	} {
		expectFault(t, fmt.Sprintf("%d: Filter(%.200q)", i, fmt.Sprint(x.f)), s.Filter(x.f), x.at)
	}
}

// P5.1: of a schema that isn't in form its attributes are asked as they are.
func TestSchemaThatIsNone(t *testing.T) {
	far := 1 << 40
	s := value.Schema{number("and", -far, far), {Name: "B", Kind: value.Text, Min: 3, Max: 1}, {Name: "k", Kind: 3}, number("e", 2, 1), text("and"), text("B")}
	none := []value.Value{num(far), str("x"), num(0), num(1), str(""), str("y")}
	expectFault(t, "a value of no kind", s.Event(value.Event{Values: none}), 2)
	expectFault(t, "a number beyond", s.Event(value.Event{Values: append([]value.Value{num(far + 1)}, none[1:]...)}), 0)
	expectFault(t, "too few", s.Event(value.Event{Values: none[:5]}), 0)
	expectFault(t, "none of none", value.Schema{}.Event(value.Event{}), right)
	expectFault(t, "one of none", value.Schema{}.Event(event(num(0))), 0)
	expectFault(t, "no number is from 2 to 1", s[3:4].Event(event(num(2))), 0)
	expectFault(t, "five that are right", value.Schema{s[0], s[1], s[4], s[5], s[0]}.Event(event(num(-far), str("x"), str("y"), str(""), num(far))), right)

	for i, x := range []struct {
		p  value.Pred
		at int
	}{
		{in("and", -far, far), right}, {in("and", -far-1, far), 0}, {eq("and", "x"), 0}, {eq("B", "x"), right}, {prefix("B", "x"), right}, {in("B", 3, 3), 0},
		{in("k", 0, 0), 0}, {eq("k", ""), 0}, {prefix("k", "x"), 0}, {in("e", 2, 1), 0}, {in("e", 1, 1), 0}, {in("e", 2, 2), 0}, {eq("x", ""), 0},
	} {
		expectFault(t, fmt.Sprintf("%d: Filter(%v)", i, x.p), s.Filter(value.Filter{x.p}), x.at)
	}
	expectFault(t, "a filter of none", value.Schema{}.Filter(value.Filter{eq("x", "")}), 0)

	two := value.Schema{number("a", 0, 9), text("a")}
	if !two.Match(value.Filter{in("a", 3, 4)}, event(num(3), str("x"))) || two.Match(value.Filter{eq("a", "x")}, event(num(3), str("x"))) {
		t.Error("of two attributes of one name the first one is asked")
	}
	if !(value.Schema{number("in", 0, far)}).Match(value.Filter{in("in", far, far)}, event(num(far))) {
		t.Error("Match by a schema that isn't in form")
	}
}

// P5.2: the chapter's example, and more of its kind.
func TestMatch(t *testing.T) {
	s := value.Schema{number("price", 0, 99), text("tag"), number("n", -value.Most, value.Most)}
	long := strings.Repeat("x", value.MaxStr)
	for i, x := range []struct {
		f    value.Filter
		n    int
		tag  string
		want bool
	}{
		{value.Filter{in("price", 3, 9), prefix("tag", "a")}, 5, "abc", true}, {value.Filter{in("price", 3, 9), prefix("tag", "a")}, 5, "b", false}, {value.Filter{in("price", 3, 9), prefix("tag", "a")}, 10, "abc", false},
		{value.Filter{prefix("tag", "a"), in("price", 3, 9)}, 5, "abc", true}, {value.Filter{prefix("tag", "a"), in("price", 3, 9)}, 2, "abc", false}, {value.Filter{prefix("tag", "a"), in("price", 3, 9)}, 2, "b", false},
		{value.Filter{in("price", 3, 9)}, 3, "", true}, {value.Filter{in("price", 3, 9)}, 9, "", true}, {value.Filter{in("price", 3, 9)}, 2, "", false}, {value.Filter{in("price", 3, 9)}, 10, "", false},
		{value.Filter{in("price", 0, 99)}, 0, "", true}, {value.Filter{in("price", 0, 99)}, 99, "", true}, {value.Filter{in("price", 7, 7)}, 7, "", true}, {value.Filter{in("price", 7, 7)}, 8, "", false},
		{value.Filter{eq("tag", "abc")}, 0, "abc", true}, {value.Filter{eq("tag", "abc")}, 0, "ab", false}, {value.Filter{eq("tag", "abc")}, 0, "abcd", false}, {value.Filter{eq("tag", "abc")}, 0, "ABC", false},
		{value.Filter{eq("tag", "")}, 0, "", true}, {value.Filter{eq("tag", "")}, 0, "a", false}, {value.Filter{eq("tag", "a")}, 0, "", false}, {value.Filter{eq("tag", long)}, 0, long, true},
		{value.Filter{prefix("tag", "ab")}, 0, "ab", true}, {value.Filter{prefix("tag", "ab")}, 0, "abc", true}, {value.Filter{prefix("tag", "ab")}, 0, "a", false}, {value.Filter{prefix("tag", "ab")}, 0, "xab", false}, {value.Filter{prefix("tag", "ab")}, 0, "", false},
		{value.Filter{prefix("tag", long)}, 0, long, true}, {value.Filter{prefix("tag", long)}, 0, long[1:], false},
		{value.Filter{in("n", 4, 4)}, 9, "", true}, {value.Filter{in("n", -value.Most, value.Most)}, 9, "", true}, {value.Filter{in("n", 5, value.Most)}, 9, "", false},
		{value.Filter{in("n", 4, 9), in("price", 5, 5), eq("tag", "q")}, 5, "q", true}, {value.Filter{in("n", 4, 9), in("price", 5, 5), eq("tag", "q")}, 5, "qq", false}, {value.Filter{in("n", 5, 9), in("price", 5, 5), eq("tag", "q")}, 5, "q", false},
	} {
		e := event(num(x.n), str(x.tag), num(4))
		if got := s.Match(x.f, e); got != x.want {
			t.Errorf("%d: Match(%v, %v) = %v", i, x.f, e, got)
		}
		e.Payload = strings.Repeat("\xff", 200)
		if got := s.Match(x.f, e); got != x.want {
			t.Errorf("%d: Match(%v) with a payload = %v", i, x.f, got)
		}
		e.Payload += "x"
		if s.Match(x.f, e) {
			t.Errorf("%d: Match(%v) with too long a payload", i, x.f)
		}
	}
}

// P5.2: nothing matches where the filter or the event isn't the schema's, though the predicates are true of the values.
func TestMatchOfWhatIsNotRight(t *testing.T) {
	s := shop()
	f, e := value.Filter{in("price", 3, 9), prefix("tag", "a")}, event(num(5), str("abc"))
	if !s.Match(f, e) {
		t.Fatal("Match")
	}
	for i, g := range []value.Filter{
		nil, {}, {f[0], f[0]}, {in("price", -1, 9)}, {in("price", 3, 100)}, {in("price", 9, 3)}, {eq("price", "")}, {prefix("tag", "")}, {in("tag", 0, 0)}, {in("x", 5, 5)},
		{f[0], {Name: "tag", Op: value.Prefix, Str: "a", Hi: 1}}, {{Name: "price", Op: value.In, Lo: 3, Hi: 9, Str: "a"}}, {f[0], f[1], f[0], f[1], f[0]}, {{Name: "price", Op: 4, Lo: 3, Hi: 9}}, {{Name: "tag", Op: 4, Str: "a"}}, {{Name: "tag", Str: "abc"}},
	} {
		if s.Match(g, e) {
			t.Errorf("%d: Match(%v)", i, g)
		}
	}
	for i, g := range []value.Event{
		{}, event(num(5)), event(num(5), str("abc"), num(5)), event(num(5), str("abc\n")), event(num(5), value.Value{Num: 1, Str: "abc"}), event(value.Value{Num: 5, Str: "x"}, str("abc")), event(num(5), str("a"+strings.Repeat("x", value.MaxStr))),
	} {
		if s.Match(f, g) {
			t.Errorf("%d: Match of %v", i, g)
		}
	}
	if s.Match(value.Filter{in("price", 3, 9)}, event(num(5), str("\n"))) || s.Match(value.Filter{eq("tag", "a")}, event(num(100), str("a"))) {
		t.Error("Match of an event that is wrong in what isn't asked")
	}
	if (value.Schema{}).Match(nil, value.Event{}) {
		t.Error("Match of nothing by nothing")
	}
}

// oneOf: any of these.
func oneOf[T any](r *rand.Rand, l ...T) T { return l[r.Intn(len(l))] }

func someName(r *rand.Rand) string {
	return oneOf(r, "a", "b", "c", "d", "a", "b", "c", "d", "in", "and", "", "1")
}

func someText(r *rand.Rand) string {
	return oneOf(r, "", "a", "ab", "abc", "b", strings.Repeat("x", 40), strings.Repeat("x", 41), "a\n", "~ ")
}

func someNumber(r *rand.Rand) int {
	return oneOf(r, 0, 0, 0, 1, 2, 3, -1, -2, value.Most, -value.Most, value.Most+1, -value.Most-1)
}

func someSchema(r *rand.Rand) value.Schema {
	var s value.Schema
	for range oneOf(r, 0, 1, 1, 2, 2, 3, 4, 5) {
		a := value.Attr{Name: someName(r), Kind: oneOf(r, value.Int, value.Int, value.Text, value.Text, 0, 3)}
		if a.Kind == value.Int || r.Intn(10) == 0 {
			a.Min, a.Max = someNumber(r), someNumber(r)
		}
		s = append(s, a)
	}
	return s
}

func someEvent(r *rand.Rand, s value.Schema) value.Event {
	var e value.Event
	for _, a := range s {
		v := value.Value{Num: someNumber(r)}
		if a.Kind == value.Text {
			v = value.Value{Str: someText(r)}
		}
		e.Values = append(e.Values, v)
	}
	if r.Intn(20) == 0 {
		e.Values = append(e.Values, num(0))
	}
	e.Payload = strings.Repeat("p", oneOf(r, 0, 1, 200, 201))
	return e
}

func someFilter(r *rand.Rand, s value.Schema) value.Filter {
	var f value.Filter
	for range oneOf(r, 0, 1, 1, 1, 2, 2, 3, 4, 5) {
		p := value.Pred{Name: someName(r), Op: r.Intn(5)}
		if len(s) > 0 && r.Intn(4) > 0 {
			p.Name = s[r.Intn(len(s))].Name
		}
		if p.Op == value.In || r.Intn(10) == 0 {
			p.Lo, p.Hi = someNumber(r), someNumber(r)
		} else {
			p.Str = someText(r)
		}
		f = append(f, p)
	}
	return f
}

// The chapter's words once more, told by lists of what is asked.

var (
	nameForm = regexp.MustCompile(`^[a-z][a-z0-9]{0,11}$`)
	textForm = regexp.MustCompile(`\A[ -~]{0,40}\z`)
)

func all(l ...bool) bool { return !slices.Contains(l, false) }

func schemaFault(s value.Schema) int {
	if len(s) == 0 || len(s) > 4 {
		return 0
	}
	seen := map[string]bool{"in": true, "and": true}
	for i, a := range s {
		number := all(a.Kind == 1, a.Min >= -1<<31, a.Max <= 1<<31, a.Min <= a.Max)
		text := all(a.Kind == 2, a.Min == 0, a.Max == 0)
		if seen[a.Name] || !nameForm.MatchString(a.Name) || !number && !text {
			return i
		}
		seen[a.Name] = true
	}
	return right
}

func eventFault(s value.Schema, e value.Event) int {
	if len(s) != len(e.Values) || len(e.Payload) > 200 {
		return 0
	}
	for i, v := range e.Values {
		number := all(s[i].Kind == 1, v.Num >= s[i].Min, v.Num <= s[i].Max, v.Str == "")
		text := all(s[i].Kind == 2, v.Num == 0, textForm.MatchString(v.Str))
		if !number && !text {
			return i
		}
	}
	return right
}

func filterFault(s value.Schema, f value.Filter) int {
	if len(f) == 0 || len(f) > 4 {
		return 0
	}
	// Only the first attribute of a name can be asked, and but once.
	asked := map[string]value.Attr{}
	for _, a := range slices.Backward(s) {
		asked[a.Name] = a
	}
	for i, p := range f {
		a := asked[p.Name]
		number := all(a.Kind == 1, p.Op == 1, p.Lo >= a.Min, p.Lo <= p.Hi, p.Hi <= a.Max, p.Str == "")
		text := all(a.Kind == 2, p.Op == 2 || p.Op == 3 && p.Str != "", p.Lo == 0, p.Hi == 0, textForm.MatchString(p.Str))
		if !number && !text {
			return i
		}
		delete(asked, p.Name)
	}
	return right
}

func matches(s value.Schema, f value.Filter, e value.Event) bool {
	if filterFault(s, f) != right || eventFault(s, e) != right {
		return false
	}
	for _, p := range f {
		for i, a := range s {
			if a.Name != p.Name {
				continue
			}
			v := e.Values[i]
			number := p.Op == 1 && v.Num >= p.Lo && v.Num <= p.Hi
			text := p.Op == 2 && v.Str == p.Str || p.Op == 3 && strings.Index(v.Str, p.Str) == 0
			if !number && !text {
				return false
			}
			break
		}
	}
	return true
}

// P5.1, P5.2: many schemas, events and filters, right ones and wrong ones.
func TestManyOfThem(t *testing.T) {
	r := rand.New(rand.NewSource(5))
	counts := map[string]int{}
	for range 60000 {
		s := someSchema(r)
		at := schemaFault(s)
		expectFault(t, fmt.Sprintf("Check of %v", s), s.Check(), at)
		e, f := someEvent(r, s), someFilter(r, s)
		expectFault(t, fmt.Sprintf("Event(%#v) of %v", e, s), s.Event(e), eventFault(s, e))
		expectFault(t, fmt.Sprintf("Filter(%#v) of %v", f, s), s.Filter(f), filterFault(s, f))
		want := matches(s, f, e)
		if got := s.Match(f, e); got != want {
			t.Errorf("Match(%#v, %#v) of %v = %v", f, e, s, got)
		}
		counts[fmt.Sprint("schema ", at)]++
		counts[fmt.Sprint("event ", eventFault(s, e))]++
		counts[fmt.Sprint("filter ", filterFault(s, f))]++
		counts[fmt.Sprint("match ", want)]++
		if t.Failed() {
			return
		}
	}
	for _, what := range []string{"schema -1", "schema 0", "schema 1", "schema 2", "event -1", "event 0", "event 1", "event 2", "filter -1", "filter 0", "filter 1", "match true", "match false"} {
		if counts[what] < 50 {
			t.Errorf("%s: but %d times", what, counts[what])
		}
	}
}

// K3, K4: no call changes what it is handed, nor the spare room behind it, and each answers the same again.
func TestNothingIsChanged(t *testing.T) {
	r := rand.New(rand.NewSource(6))
	for range 2000 {
		s := someSchema(r)
		e, f := someEvent(r, s), someFilter(r, s)
		s = append(s, number("spare", 1, 2), text("room"))[:len(s)]
		f = append(f, in("spare", 1, 2))[:len(f)]
		e.Values = append(e.Values, str("spare"))[:len(e.Values)]
		ahead := fmt.Sprintf("%#v %#v %#v", s[:cap(s)], e.Values[:cap(e.Values)], f[:cap(f)])
		first := []any{s.Check(), s.Find("b"), s.Event(e), s.Filter(f), s.Match(f, e)}
		again := []any{s.Check(), s.Find("b"), s.Event(e), s.Filter(f), s.Match(f, e)}
		if !reflect.DeepEqual(first, again) {
			t.Fatalf("%v, and then %v", first, again)
		}
		if now := fmt.Sprintf("%#v %#v %#v", s[:cap(s)], e.Values[:cap(e.Values)], f[:cap(f)]); now != ahead {
			t.Fatalf("%s is %s now", ahead, now)
		}
	}
}

// K3: an error that a caller changes is that caller's alone.
func TestErrorsAreNew(t *testing.T) {
	s := shop()
	for i, call := range []func() error{
		func() error { return value.Schema{s[0], s[0]}.Check() },
		func() error { return s.Event(event(num(5), num(5))) },
		func() error { return s.Filter(value.Filter{in("price", 0, 0), in("price", 0, 0)}) },
	} {
		var f *api.Fault
		if err := call(); !errors.As(err, &f) {
			t.Fatalf("%d: no fault: %v", i, err)
		}
		f.At, f.Err = 77, api.ErrHops
		expectFault(t, fmt.Sprintf("%d: behind a changed answer", i), call(), 1)
	}
}
