package rdv_test

import (
	"fmt"
	"slices"
	"testing"

	"wigwag/api"
	"wigwag/chord"
	"wigwag/group"
	"wigwag/ideal"
	"wigwag/rdv"
	"wigwag/table"
)

// quarters: the circle of four members, each of which is the owner of a quarter of all places; and of each a group of its own.
func quarters(t *testing.T) (ideal.Circle, []string) {
	t.Helper()
	r, err := chord.New([]api.Id{0, 1 << 62, 2 << 62, 3 << 62})
	must(t, err)
	c := ideal.Of(r)
	names := make([]string, 4)
	for i := range 100 {
		name := fmt.Sprint("price.8.", i)
		names[c.Owner(group.Key(name))] = name
	}
	for n, name := range names {
		expectKeepers(t, "quarters", c, name, n, (n+1)%4, (n+2)%4)
	}
	return c, names
}

// give: wishes of a group, of the children from one number to another one, come to one member, and to nobody else; it is none of the circle's.
func give(t *testing.T, s *rdv.Store, n int, name string, from, to int) {
	t.Helper()
	c, _ := quarters(t)
	for child := from; child <= to; child++ {
		must(t, s.Put(c, wish(name, child)))
	}
	must(t, s.Do([]rdv.Move{{name, c.Owner(group.Key(name)), n}}))
	for member := range 4 {
		s.Gone(member)
	}
}

// P21.1: a new store has nothing; nobody and nothing may be asked for.
func TestNewStore(t *testing.T) {
	s := rdv.New()
	c, names := quarters(t)
	for _, n := range append([]int{0, 1, 31}, odd...) {
		s.Gone(n)
		for _, name := range append([]string{"", "g"}, names...) {
			expectChildren(t, "new", s, n, name)
		}
	}
	s.Trim(c)
	s.Trim(ideal.Circle{})
	expectError(t, "no moves", s.Do(nil), api.OK)
	expectError(t, "no moves", s.Do([]rdv.Move{}), api.OK)
	expectChildren(t, "still new", s, 0, names[0])
}

// P21.1: a wish lies at each keeper of its group, and at nobody else; cleaned, as a table has it.
func TestPut(t *testing.T) {
	s := rdv.New()
	c, names := quarters(t)
	must(t, s.Put(c, table.Entry{Group: names[1], Child: 7, Filters: []string{"b", "a", "b"}, Till: 3}))
	must(t, s.Put(c, table.Entry{Group: names[1], Child: -5, Any: true, Filters: []string{"a"}}))
	must(t, s.Put(c, table.Entry{Group: names[2], Child: 7, Filters: []string{"c"}, Till: -1}))
	one := fmt.Sprintf("(%q -5 [] true 0)(%q 7 [\"a\" \"b\"] false 3)", names[1], names[1])
	two := fmt.Sprintf("(%q 7 [\"c\"] false -1)", names[2])
	for n, want := range []struct{ one, two string }{{"", two}, {one, ""}, {one, two}, {one, two}} {
		if got := told(s.Wishes(n, names[1])); got != want.one {
			t.Errorf("%d has %s, not %s", n, got, want.one)
		}
		if got := told(s.Wishes(n, names[2])); got != want.two {
			t.Errorf("%d has %s, not %s", n, got, want.two)
		}
	}
	many := table.Entry{Group: names[1], Child: 7}
	for i := range 17 {
		many.Filters = append(many.Filters, fmt.Sprint(i))
	}
	must(t, s.Put(c, many))
	if got, want := told(s.Wishes(3, names[1])), fmt.Sprintf("(%q -5 [] true 0)(%q 7 [] true 0)", names[1], names[1]); got != want {
		t.Errorf("too many filters: %s, not %s", got, want)
	}
}

// P21.1: the same wish twice, or another one of the same group and child: the later one alone, everywhere.
func TestPutAgain(t *testing.T) {
	s := rdv.New()
	c, names := quarters(t)
	first := table.Entry{Group: names[3], Child: 7, Filters: []string{"a"}, Till: 3}
	second := table.Entry{Group: names[3], Child: 7, Filters: []string{"b"}, Till: 1}
	for _, x := range []table.Entry{first, first, second, first, second, second} {
		must(t, s.Put(c, x))
		for _, n := range []int{3, 0, 1} {
			if got, want := told(s.Wishes(n, x.Group)), told([]table.Entry{x}); got != want {
				t.Errorf("%d has %s, not %s", n, got, want)
			}
		}
		expectChildren(t, "no keeper", s, 2, x.Group)
	}
}

// P21.1: full tables: the first keeper that has no room refuses, and those behind it aren't asked.
func TestPutFull(t *testing.T) {
	for full, got := range map[int][]int{0: {}, 1: {0}, 2: {0, 1}, 3: {0, 1, 2}} {
		s := rdv.New()
		c, names := quarters(t)
		give(t, s, 50, names[full], 1, 400)
		must(t, s.Do([]rdv.Move{{names[full], 50, full}}))
		want := api.ErrFull
		if full == 3 {
			want = api.OK
		}
		expectError(t, "a wish more", s.Put(c, wish(names[0], 500)), want)
		for n := range 4 {
			if has := len(s.Wishes(n, names[0])) == 1; has != slices.Contains(got, n) {
				t.Errorf("%d is full: %d has the wish: %v", full, n, has)
			}
		}
		if n := len(s.Wishes(full, names[full])); n != 400 {
			t.Errorf("%d wishes", n)
		}
	}
}

// P21.1: at all keepers there is room for 400 wishes; another one of the same group and child always has room.
func TestPutAllFull(t *testing.T) {
	s := rdv.New()
	c, names := quarters(t)
	for child := range 400 {
		must(t, s.Put(c, wish(names[2], child)))
	}
	for _, x := range []table.Entry{wish(names[2], 400), wish(names[2], -1), wish(names[0], 1), wish(names[3], 7)} {
		expectError(t, "full", s.Put(c, x), api.ErrFull)
		if n := len(s.Wishes(2, names[2])); n != 400 {
			t.Errorf("%d wishes", n)
		}
	}
	must(t, s.Put(c, table.Entry{Group: names[2], Child: 399, Any: true}))
	if l := s.Wishes(0, names[2]); len(l) != 400 || !l[399].Any {
		t.Errorf("%d wishes, the last one %v", len(l), l[len(l)-1])
	}
	// 1 is the only one who doesn't keep that group.
	expectChildren(t, "room for one", s, 1, names[0])
	expectError(t, "the first keeper is full", s.Put(c, wish(names[0], 1)), api.ErrFull)
	expectChildren(t, "behind it", s, 1, names[0])
	expectError(t, "the second one is full", s.Put(c, wish(names[1], 1)), api.ErrFull)
	expectChildren(t, "ahead of it", s, 1, names[1], 1)
}

// P21.1: moves from and to members that have nothing, that are nobody, or that are the same; one behind the other.
func TestDo(t *testing.T) {
	s := rdv.New()
	c, names := quarters(t)
	a, b := names[0], names[1]
	must(t, s.Put(c, table.Entry{Group: a, Child: 7, Filters: []string{"f"}, Till: 9}))
	must(t, s.Put(c, wish(a, 3)))
	must(t, s.Put(c, wish(b, 5)))
	must(t, s.Do([]rdv.Move{{a, 1, 9}}))
	expectChildren(t, "to one that had nothing", s, 9, a, 3, 7)
	expectChildren(t, "another group stays", s, 9, b)
	expectChildren(t, "who gives keeps it", s, 1, a, 3, 7)
	must(t, s.Do([]rdv.Move{{a, 5, 1}, {"none", 1, 2}, {b, 0, 2}, {"", -1, -2}}))
	expectChildren(t, "from one that has nothing", s, 1, a, 3, 7)
	expectChildren(t, "likewise", s, 2, b, 5)
	expectChildren(t, "likewise", s, 5, a)
	must(t, s.Do([]rdv.Move{{a, 9, 9}, {b, 2, 2}, {b, 5, 5}}))
	expectChildren(t, "to itself", s, 9, a, 3, 7)
	expectChildren(t, "to itself", s, 5, b)
	must(t, s.Do([]rdv.Move{{b, 1, 20}, {b, 20, 21}, {b, 23, 22}, {b, 21, 23}}))
	expectChildren(t, "one behind the other", s, 21, b, 5)
	expectChildren(t, "one behind the other", s, 23, b, 5)
	expectChildren(t, "too early", s, 22, b)
	for _, n := range odd {
		must(t, s.Do([]rdv.Move{{b, 1, n}}))
		expectChildren(t, "any int", s, n, b, 5)
		must(t, s.Do([]rdv.Move{{b, n, 99}}))
		expectChildren(t, "from any int", s, 99, b, 5)
		s.Gone(99)
	}
}

// P21.1: what is moved takes the place of an older wish, and leaves the others there.
func TestDoOver(t *testing.T) {
	s := rdv.New()
	c, names := quarters(t)
	g := names[0] // 0, 1 and 2 keep it
	must(t, s.Put(c, table.Entry{Group: g, Child: 7, Filters: []string{"old"}, Till: 9}))
	must(t, s.Put(c, table.Entry{Group: g, Child: 8, Filters: []string{"old"}, Till: 9}))
	must(t, s.Do([]rdv.Move{{g, 0, 3}}))
	s.Gone(0)
	must(t, s.Put(c, table.Entry{Group: g, Child: 7, Any: true, Till: 4}))
	must(t, s.Put(c, table.Entry{Group: g, Child: 9, Filters: []string{"x", "a"}}))
	must(t, s.Do([]rdv.Move{{g, 0, 3}}))
	want := fmt.Sprintf("(%q 7 [] true 4)(%q 8 [\"old\"] false 9)(%q 9 [\"a\" \"x\"] false 0)", g, g, g)
	if got := told(s.Wishes(3, g)); got != want {
		t.Errorf("%s, not %s", got, want)
	}
	if got := children(s, 0, g); !slices.Equal(got, []int{7, 9}) {
		t.Errorf("0 has the wishes of %v", got)
	}
}

// P21.1: a move that fails in the midst: what was put ahead of it is there; what is behind it isn't done.
func TestDoFull(t *testing.T) {
	s := rdv.New()
	_, names := quarters(t)
	g, h := names[0], names[1]
	give(t, s, 50, g, 1, 5)
	give(t, s, 51, h, 7, 7)
	give(t, s, 60, h, 1, 397)
	give(t, s, 52, g, 4, 4)
	must(t, s.Do([]rdv.Move{{g, 52, 60}}))
	c, _ := quarters(t)
	must(t, s.Put(c, table.Entry{Group: g, Child: 4, Any: true}))
	must(t, s.Do([]rdv.Move{{g, 0, 50}}))
	// At 60 there is room for two; of 4 there is a wish already, which 50 has another one for.
	err := s.Do([]rdv.Move{{h, 51, 61}, {g, 50, 60}, {h, 51, 62}, {g, 50, 63}})
	expectError(t, "no room for 3", err, api.ErrFull)
	expectChildren(t, "ahead of it", s, 61, h, 7)
	if got, want := told(s.Wishes(60, g)), told([]table.Entry{wish(g, 1), wish(g, 2), wish(g, 4)}); got != want {
		t.Errorf("60 has %s, not %s", got, want)
	}
	if n := len(s.Wishes(60, h)); n != 397 {
		t.Errorf("60 has %d others", n)
	}
	expectChildren(t, "behind it", s, 62, h)
	expectChildren(t, "behind it", s, 63, g)
	expectChildren(t, "who gives keeps it", s, 50, g, 1, 2, 3, 4, 5)
	expectError(t, "again", s.Do([]rdv.Move{{g, 50, 60}}), api.ErrFull)
	must(t, s.Do([]rdv.Move{{h, 51, 60}, {g, 52, 60}, {"none", 50, 60}, {g, 60, 60}}))
}

// P21.1: who is gone has nothing; the others keep theirs, and it may get some again.
func TestGone(t *testing.T) {
	s := rdv.New()
	c, names := quarters(t)
	g, h := names[0], names[1]
	must(t, s.Put(c, wish(g, 7)))
	must(t, s.Put(c, wish(h, 8)))
	s.Gone(1)
	for range 2 {
		for n, want := range []struct{ g, h []int }{{[]int{7}, nil}, {nil, nil}, {[]int{7}, []int{8}}, {nil, []int{8}}} {
			expectChildren(t, "1 is gone", s, n, g, want.g...)
			expectChildren(t, "1 is gone", s, n, h, want.h...)
		}
		// Nobody, and one that is gone already.
		for _, n := range append([]int{1, 9}, odd...) {
			s.Gone(n)
		}
	}
	must(t, s.Do([]rdv.Move{{g, 1, 2}, {g, 2, 1}}))
	expectChildren(t, "again", s, 1, g, 7)
	expectChildren(t, "again", s, 1, h)
	must(t, s.Put(c, wish(h, 9)))
	expectChildren(t, "again", s, 1, h, 9)
}

// P21.1: each forgets what it doesn't keep on that circle, and nothing else; also who is none of it.
func TestTrim(t *testing.T) {
	s := rdv.New()
	c, names := quarters(t)
	for i, name := range names {
		must(t, s.Put(c, wish(name, i)))
		must(t, s.Put(c, wish(name, 100+i)))
	}
	s.Trim(c)
	for i, name := range names {
		for _, n := range rdv.Keepers(c, name) {
			expectChildren(t, "all are keepers", s, n, name, i, 100+i)
			must(t, s.Do([]rdv.Move{{name, n, 77}, {name, n, -1}, {name, n, (i + 3) % 4}}))
		}
		expectChildren(t, "all have all", s, 77, name, i, 100+i)
		expectChildren(t, "all have all", s, (i+3)%4, name, i, 100+i)
	}
	s.Trim(c)
	for i, name := range names {
		for _, n := range append([]int{77, (i + 3) % 4}, odd...) {
			expectChildren(t, "forgotten", s, n, name)
		}
		for _, n := range rdv.Keepers(c, name) {
			expectChildren(t, "kept", s, n, name, i, 100+i)
		}
	}
	// One comes right ahead of 1: of three groups it is a keeper, and the last one of these is none any more.
	r, err := chord.New([]api.Id{0, 1 << 62, 2 << 62, 3 << 62})
	must(t, err)
	must(t, r.Join(4, 1<<62-1, 0))
	s.Trim(ideal.Of(r))
	for i, want := range [][]int{{0, 1}, {1, 2}, {2, 3, 0}, {3, 0}} {
		for n := range 5 {
			if has := len(s.Wishes(n, names[i])) == 2; has != slices.Contains(want, n) {
				t.Errorf("%d has %q: %v, of %v", n, names[i], has, want)
			}
		}
	}
	s.Trim(ideal.Circle{})
	for n := range 5 {
		for _, name := range names {
			expectChildren(t, "nobody keeps anything", s, n, name)
		}
	}
}

// P21.1: wishes of nobody, and of groups that nobody wants.
func TestWishes(t *testing.T) {
	s := rdv.New()
	c, names := quarters(t)
	for _, child := range []int{5, -3, 400, 0} {
		must(t, s.Put(c, wish(names[0], child)))
	}
	must(t, s.Put(c, wish("", 9)))
	expectChildren(t, "by rising children", s, 0, names[0], -3, 0, 5, 400)
	for _, n := range append([]int{3, 4, 31}, odd...) {
		expectChildren(t, "nobody", s, n, names[0])
	}
	for _, name := range []string{names[1], "none", names[0] + "0", names[0][:7], "\x00"} {
		expectChildren(t, "nothing", s, 0, name)
	}
	expectChildren(t, "the empty name", s, rdv.Keepers(c, "")[0], "", 9)
}

// P2 (K3): no two stores share anything; nor does a store with what is handed in, with what it answers, or one member's wishes with another one's.
func TestMemory(t *testing.T) {
	s, other := rdv.New(), rdv.New()
	c, names := quarters(t)
	g := names[0]
	x := table.Entry{Group: g, Child: 7, Filters: append(make([]string, 0, 4), "a", "b"), Till: 3}
	want := told([]table.Entry{x})
	must(t, s.Put(c, x))
	x.Filters[0], x.Filters[:4][2] = "spoilt", "spoilt"
	moves := append(make([]rdv.Move, 0, 3), rdv.Move{g, 0, 9}, rdv.Move{g, 1, 8})
	must(t, s.Do(moves))
	if !slices.Equal(moves[:3], []rdv.Move{{g, 0, 9}, {g, 1, 8}, {}}) {
		t.Errorf("the moves were changed: %v", moves[:3])
	}
	moves[0] = rdv.Move{g, 5, 6}
	for _, n := range []int{0, 1, 2, 8, 9} {
		l := s.Wishes(n, g)
		if got := told(l); got != want {
			t.Errorf("%d has %s, not %s", n, got, want)
		}
		spoilEntries(l)
		if len(other.Wishes(n, g)) > 0 {
			t.Errorf("another store: %d has %v", n, other.Wishes(n, g))
		}
	}
	for _, n := range []int{0, 1, 2, 8, 9} {
		if got := told(s.Wishes(n, g)); got != want {
			t.Errorf("%d has %s, not %s", n, got, want)
		}
	}
	k := rdv.Keepers(c, g)
	spoil(k)
	expectKeepers(t, "asked again", c, g, 0, 1, 2)
	names = append(make([]string, 0, 8), "b", "a")
	_ = rdv.Plan(c, ideal.Circle{}, names)
	l := rdv.Plan(c, c, names)
	if len(l) > 0 || !slices.Equal(names[:4], []string{"b", "a", "", ""}) {
		t.Errorf("%v, %q", l, names[:4])
	}
}

// spoil writes over a list and the room behind it.
func spoil(l []int) {
	l = l[:cap(l)]
	for i := range l {
		l[i] = 99
	}
}

// spoilEntries writes over entries, their filters, and the room behind each.
func spoilEntries(l []table.Entry) {
	l = l[:cap(l)]
	for i := range l {
		f := l[i].Filters[:cap(l[i].Filters)]
		for k := range f {
			f[k] = "spoilt"
		}
		l[i] = table.Entry{Group: "spoilt", Child: 99, Filters: []string{"spoilt"}, Any: true}
	}
}
