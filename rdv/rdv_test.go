package rdv_test

import (
	"errors"
	"fmt"
	"math"
	"slices"
	"strings"
	"testing"

	"wigwag/api"
	"wigwag/chord"
	"wigwag/group"
	"wigwag/ideal"
	"wigwag/rdv"
	"wigwag/table"
)

// odd are ints that few take for a member.
var odd = []int{-1, -2, -32, 32, 33, 1 << 32, 1 << 40, math.MinInt, math.MaxInt}

// ringAt: base members at 10, 20, 30 and 40, counted so that the key of "g" is at the place key.
func ringAt(t *testing.T, key api.Id) (*chord.Ring, func(api.Id) api.Id) {
	t.Helper()
	at := func(x api.Id) api.Id { return group.Key("g") - key + x }
	r, err := chord.New([]api.Id{at(10), at(20), at(30), at(40)})
	must(t, err)
	return r, at
}

// must fails the test if a call that it leans on was refused.
func must(t *testing.T, err error) {
	t.Helper()
	if err != nil {
		t.Fatal(err)
	}
}

// joined: the circle, once others came, each at its place.
func joined(t *testing.T, r *chord.Ring, at func(api.Id) api.Id, members map[int]api.Id) ideal.Circle {
	t.Helper()
	for _, n := range sortedKeys(members) {
		must(t, r.Join(n, at(members[n]), 0))
		r.Round()
	}
	return ideal.Of(r)
}

// gone: the circle, once others went.
func gone(t *testing.T, r *chord.Ring, members ...int) ideal.Circle {
	t.Helper()
	for _, n := range members {
		// Each one that goes is forgotten ahead of the next one, so that nobody is left without a head.
		for range ideal.Rounds(len(r.Live())) {
			r.Round()
		}
		must(t, r.Fail(n))
	}
	return ideal.Of(r)
}

func expectKeepers(t *testing.T, when string, c ideal.Circle, name string, want ...int) {
	t.Helper()
	if got := rdv.Keepers(c, name); !slices.Equal(got, want) {
		t.Errorf("%s: Keepers(%q) = %v, not %v", when, name, got, want)
	}
}

func expectPlan(t *testing.T, when string, got []rdv.Move, want ...rdv.Move) {
	t.Helper()
	if !slices.Equal(got, want) {
		t.Errorf("%s: %v, not %v", when, got, want)
	}
}

func expectError(t *testing.T, when string, err error, want api.Code) {
	t.Helper()
	if want == api.OK && err != nil || want != api.OK && !errors.Is(err, want) || api.Of(err) != want {
		t.Errorf("%s: %v, not %v", when, err, want)
	}
}

// wish: of a group, of a child, of one filter.
func wish(name string, child int) table.Entry {
	return table.Entry{Group: name, Child: child, Filters: []string{"f"}, Till: 9}
}

// children: whose wishes of a group a member has.
func children(s *rdv.Store, n int, name string) []int {
	var l []int
	for _, x := range s.Wishes(n, name) {
		l = append(l, x.Child)
	}
	return l
}

func expectChildren(t *testing.T, when string, s *rdv.Store, n int, name string, want ...int) {
	t.Helper()
	if got := children(s, n, name); !slices.Equal(got, want) {
		t.Errorf("%s: %d has the wishes of %v of %q, not %v", when, n, got, name, want)
	}
}

// told: entries as a text; a nil list is as an empty one.
func told(l []table.Entry) string {
	var s strings.Builder
	for _, e := range l {
		fmt.Fprintf(&s, "(%q %d %q %v %d)", e.Group, e.Child, append([]string{}, e.Filters...), e.Any, e.Till)
	}
	return s.String()
}

// P21.1: the chapter's example.
func TestExample(t *testing.T) {
	if rdv.Copies != 2 {
		t.Errorf("Copies = %d", rdv.Copies)
	}
	r, at := ringAt(t, 15)
	was := ideal.Of(r)
	expectKeepers(t, "the base members", was, "g", 1, 2, 3)
	is := joined(t, r, at, map[int]api.Id{4: 25})
	expectKeepers(t, "25 came", is, "g", 1, 4, 2)
	expectPlan(t, "25 came", rdv.Plan(was, is, []string{"g"}), rdv.Move{Group: "g", From: 1, To: 4})
}

// P21.1: keepers round the circle, wherever the key lies; of members whose places don't rise with their addresses.
func TestKeepers(t *testing.T) {
	for key, want := range map[api.Id][]int{10: {0, 1, 2}, 11: {1, 2, 3}, 20: {1, 2, 3}, 21: {2, 3, 0}, 30: {2, 3, 0}, 31: {3, 0, 1}, 40: {3, 0, 1}, 41: {0, 1, 2}, 9: {0, 1, 2}, 1 << 63: {0, 1, 2}} {
		r, _ := ringAt(t, key)
		expectKeepers(t, fmt.Sprint("key ", key), ideal.Of(r), "g", want...)
	}
	for key, want := range map[api.Id][]int{21: {5, 31, 2}, 23: {31, 2, 9}, 30: {2, 9, 3}, 31: {9, 3, 0}} {
		r, at := ringAt(t, key)
		c := joined(t, r, at, map[int]api.Id{31: 29, 9: 35, 5: 22})
		expectKeepers(t, fmt.Sprint("more of them, key ", key), c, "g", want...)
	}
	r, at := ringAt(t, 39)
	c := joined(t, r, at, map[int]api.Id{7: 5, 6: 41, 30: 39})
	expectKeepers(t, "one at the key", c, "g", 30, 3, 6)
	later := gone(t, r, 30)
	expectKeepers(t, "it went", later, "g", 3, 6, 7)
	expectKeepers(t, "the older circle", c, "g", 30, 3, 6)
	c = gone(t, r, 6)
	expectKeepers(t, "the next one, too", c, "g", 3, 7, 0)
}

// P21.1: nobody keeps anything on the empty circle.
func TestEmptyCircle(t *testing.T) {
	var c ideal.Circle
	r, _ := ringAt(t, 15)
	full := ideal.Of(r)
	for _, name := range []string{"g", "", "price.3.0", "\xff"} {
		expectKeepers(t, "empty", c, name)
	}
	names := []string{"g", "", "g"}
	expectPlan(t, "from it", rdv.Plan(c, full, names))
	expectPlan(t, "to it", rdv.Plan(full, c, names))
	expectPlan(t, "both", rdv.Plan(c, c, names))
	s := rdv.New()
	for _, x := range []table.Entry{{}, wish("g", 1), {Group: "g", Any: true}} {
		expectError(t, "Put", s.Put(c, x), api.ErrNone)
	}
	expectChildren(t, "refused", s, 0, "g")
	must(t, s.Put(full, wish("g", 1)))
	expectError(t, "Put", s.Put(c, wish("g", 2)), api.ErrNone)
	expectChildren(t, "refused", s, 1, "g", 1)
	s.Trim(c)
	for n := range 4 {
		expectChildren(t, "nobody keeps it", s, n, "g")
	}
}

// P21.1: plans of members that come: right ahead of the key, at it, behind the owner, behind all keepers; and back again, as if they went. Who stays gives, though it keeps the group no more.
func TestPlanOfComing(t *testing.T) {
	for _, c := range []struct {
		come        map[int]api.Id
		is          []int
		there, back []rdv.Move
	}{
		{nil, []int{1, 2, 3}, nil, nil},
		{map[int]api.Id{9: 14}, []int{1, 2, 3}, nil, nil},
		{map[int]api.Id{9: 41}, []int{1, 2, 3}, nil, nil},
		{map[int]api.Id{9: 39}, []int{1, 2, 9}, []rdv.Move{{"g", 1, 9}}, []rdv.Move{{"g", 1, 3}}},
		{map[int]api.Id{9: 15}, []int{9, 1, 2}, []rdv.Move{{"g", 1, 9}}, []rdv.Move{{"g", 1, 3}}},
		{map[int]api.Id{9: 19, 4: 18}, []int{4, 9, 1}, []rdv.Move{{"g", 1, 4}, {"g", 1, 9}}, []rdv.Move{{"g", 1, 2}, {"g", 1, 3}}},
		{map[int]api.Id{9: 18, 4: 19}, []int{9, 4, 1}, []rdv.Move{{"g", 1, 4}, {"g", 1, 9}}, []rdv.Move{{"g", 1, 2}, {"g", 1, 3}}},
		{map[int]api.Id{9: 19, 4: 25}, []int{9, 1, 4}, []rdv.Move{{"g", 1, 4}, {"g", 1, 9}}, []rdv.Move{{"g", 1, 2}, {"g", 1, 3}}},
		{map[int]api.Id{9: 16, 4: 17, 31: 15}, []int{31, 9, 4}, []rdv.Move{{"g", 1, 4}, {"g", 1, 9}, {"g", 1, 31}}, nil},
	} {
		r, at := ringAt(t, 15)
		was := ideal.Of(r)
		is := joined(t, r, at, c.come)
		expectKeepers(t, fmt.Sprint(c.come), is, "g", c.is...)
		expectPlan(t, fmt.Sprint(c.come), rdv.Plan(was, is, []string{"g"}), c.there...)
		expectPlan(t, fmt.Sprint("back: ", c.come), rdv.Plan(is, was, []string{"g"}), c.back...)
	}
}

// P21.1: plans of members that go: the first keeper that stays gives; if none stays, nobody does.
func TestPlanOfGoing(t *testing.T) {
	for _, c := range []struct {
		went  []int
		is    []int
		moves []rdv.Move
	}{
		{[]int{11}, []int{12, 13, 2}, []rdv.Move{{"g", 12, 2}}},
		{[]int{12}, []int{11, 13, 2}, []rdv.Move{{"g", 11, 2}}},
		{[]int{13}, []int{11, 12, 2}, []rdv.Move{{"g", 11, 2}}},
		{[]int{11, 12}, []int{13, 2, 3}, []rdv.Move{{"g", 13, 2}, {"g", 13, 3}}},
		{[]int{13, 11}, []int{12, 2, 3}, []rdv.Move{{"g", 12, 2}, {"g", 12, 3}}},
		{[]int{12, 13}, []int{11, 2, 3}, []rdv.Move{{"g", 11, 2}, {"g", 11, 3}}},
		{[]int{12, 13, 11}, []int{2, 3, 0}, nil},
		{[]int{14}, []int{11, 12, 13}, nil},
	} {
		r, at := ringAt(t, 22)
		was := joined(t, r, at, map[int]api.Id{13: 29, 12: 28, 11: 27, 14: 35})
		if slices.Contains(c.is, 3) || slices.Contains(c.is, 0) {
			// 14 would keep it, too.
			was = gone(t, r, 14)
		}
		is := gone(t, r, c.went...)
		expectKeepers(t, "ahead", was, "g", 11, 12, 13)
		expectKeepers(t, fmt.Sprint(c.went), is, "g", c.is...)
		expectPlan(t, fmt.Sprint(c.went), rdv.Plan(was, is, []string{"g"}), c.moves...)
	}
}

// P21.1: circles with no keeper, or no member but the base ones, in common.
func TestPlanOfCirclesApart(t *testing.T) {
	one, at := ringAt(t, 15)
	was := joined(t, one, at, map[int]api.Id{4: 15, 5: 16, 6: 17})
	two, at := ringAt(t, 15)
	is := joined(t, two, at, map[int]api.Id{7: 15, 8: 16, 9: 17})
	expectPlan(t, "none of the keepers is a member of the other one", rdv.Plan(was, is, []string{"g"}))
	is = joined(t, two, at, map[int]api.Id{6: 99})
	expectKeepers(t, "one is, but keeps nothing there", is, "g", 7, 8, 9)
	expectPlan(t, "one is, but keeps nothing there", rdv.Plan(was, is, []string{"g"}), rdv.Move{"g", 6, 7}, rdv.Move{"g", 6, 8}, rdv.Move{"g", 6, 9})
}

// P21.1: names that stand there twice, and out of order.
func TestPlanOfNames(t *testing.T) {
	r, at := ringAt(t, 15)
	was := ideal.Of(r)
	is := joined(t, r, at, map[int]api.Id{4: 16, 5: 17})
	// All the other groups lie far ahead of 0, so that 0, 1 and 2 keep them, and then 0, 4 and 5.
	for _, name := range []string{"", "a", "b"} {
		expectKeepers(t, "ahead", was, name, 0, 1, 2)
		expectKeepers(t, "behind", is, name, 0, 4, 5)
	}
	a, b, none, g := []rdv.Move{{"a", 0, 4}, {"a", 0, 5}}, []rdv.Move{{"b", 0, 4}, {"b", 0, 5}}, []rdv.Move{{"", 0, 4}, {"", 0, 5}}, []rdv.Move{{"g", 1, 4}, {"g", 1, 5}}
	for _, c := range []struct {
		names []string
		want  []rdv.Move
	}{
		{nil, nil}, {[]string{}, nil}, {[]string{"a"}, a}, {[]string{"a", "a", "a"}, a}, {[]string{""}, none},
		{[]string{"b", "a"}, slices.Concat(a, b)}, {[]string{"a", "b"}, slices.Concat(a, b)},
		{[]string{"g", "b", "a", "", "b", "g", "", "g"}, slices.Concat(none, a, b, g)},
	} {
		names := slices.Clone(c.names)
		expectPlan(t, fmt.Sprint(c.names), rdv.Plan(was, is, c.names), c.want...)
		if !slices.Equal(names, c.names) {
			t.Errorf("the names were changed: %q", c.names)
		}
	}
	if l := rdv.Plan(was, is, []string{"b\x00", "b", "B", "\xff"}); len(l) != 8 || l[0].Group != "B" || l[2].Group != "b" || l[4].Group != "b\x00" || l[6].Group != "\xff" {
		t.Errorf("byte by byte: %v", l)
	}
}

func sortedKeys[V any](m map[int]V) []int {
	var l []int
	for n := range m {
		l = append(l, n)
	}
	slices.Sort(l)
	return l
}
