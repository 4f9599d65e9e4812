package table_test

import (
	"errors"
	"fmt"
	"math"
	"math/rand"
	"slices"
	"strings"
	"testing"

	"wigwag/api"
	"wigwag/group"
	"wigwag/table"
)

// entry: one that holds for ever.
func entry(name string, child int, filters ...string) table.Entry {
	return table.Entry{Group: name, Child: child, Filters: filters, Till: math.MaxInt}
}

func anyOf(name string, child int) table.Entry {
	return table.Entry{Group: name, Child: child, Any: true, Till: math.MaxInt}
}

// filled: a table of these.
func filled(t *testing.T, l ...table.Entry) *table.Table {
	t.Helper()
	var x table.Table
	for _, e := range l {
		if err := x.Put(e); err != nil {
			t.Fatalf("Put(%s): %v", told([]table.Entry{e}), err)
		}
	}
	return &x
}

// all: the entries of a table, in order.
func all(x *table.Table) []table.Entry {
	var l []table.Entry
	for _, name := range x.Groups() {
		l = append(l, x.Children(name)...)
	}
	return l
}

// expectAll asks for just these entries, in order.
func expectAll(t *testing.T, what string, x *table.Table, want ...table.Entry) {
	t.Helper()
	expectTold(t, what, x, told(want))
}

// expectTold asks for entries that were told ahead, as a text, which nothing that happens since can change.
func expectTold(t *testing.T, what string, x *table.Table, want string) {
	t.Helper()
	if got := all(x); told(got) != want || x.Len() != len(got) {
		t.Errorf("%s: %d entries: %.400s; not %.400s", what, x.Len(), told(got), want)
	}
}

// expectRefused asks for an error, and for entries that are as they were.
func expectRefused(t *testing.T, what string, x *table.Table, want api.Code, call func() error) {
	t.Helper()
	before := told(all(x))
	if err := call(); !errors.Is(err, want) || api.Of(err) != want {
		t.Errorf("%s: %v, not %v", what, err, want)
	}
	expectTold(t, what, x, before)
}

func expectJoin(t *testing.T, what string, l []table.Entry, want []string, wantAny bool) {
	t.Helper()
	if got, any := table.Join(l); !slices.Equal(got, want) || any != wantAny {
		t.Errorf("%s: Join = %q, %v; not %q, %v", what, got, any, want, wantAny)
	}
}

// numbered: so many filters, rising, from a number on.
func numbered(from, n int) []string {
	var l []string
	for i := range n {
		l = append(l, fmt.Sprintf("f%04d", from+i))
	}
	return l
}

func backward(l []string) []string {
	l = slices.Clone(l)
	slices.Reverse(l)
	return l
}

// P13.1: the chapter's example.
func TestExample(t *testing.T) {
	x := filled(t, entry("g", 2, "b", "a"), anyOf("g", 1))
	l := x.Children("g")
	if want := []table.Entry{anyOf("g", 1), entry("g", 2, "a", "b")}; told(l) != told(want) {
		t.Errorf("Children = %s; not %s", told(l), told(want))
	}
	expectJoin(t, "both", l, nil, true)
}

// P13.1: each call of the zero Table.
func TestZeroTable(t *testing.T) {
	var x table.Table
	for _, n := range []int{0, 1, -1, math.MinInt, math.MaxInt} {
		for _, name := range []string{"", "g"} {
			expectRefused(t, "Drop", &x, api.ErrNone, func() error { return x.Drop(name, n) })
			if l := x.Children(name); len(l) != 0 {
				t.Errorf("Children(%q) = %s", name, told(l))
			}
		}
		if n := x.Expire(n) + x.Forget(n); n != 0 {
			t.Errorf("%d went", n)
		}
		if l := x.Move(api.Id(n), 5); len(l) != 0 {
			t.Errorf("Move = %s", told(l))
		}
	}
	if l := x.Groups(); len(l) != 0 || x.Len() != 0 {
		t.Errorf("Groups = %q, Len = %d", l, x.Len())
	}
	if err := x.Put(table.Entry{}); err != nil {
		t.Errorf("Put of the zero Entry: %v", err)
	}
	expectAll(t, "behind Put", &x, table.Entry{})
	if l := x.Groups(); !slices.Equal(l, []string{""}) {
		t.Errorf("Groups = %q", l)
	}
}

// P13.1: filters rise byte by byte, each once; more than 16 unlike ones, or Any, are Any, and no filters.
func TestCleaned(t *testing.T) {
	sixteen := numbered(0, 16)
	for i, c := range []struct {
		filters, want []string
		any, wantAny  bool
	}{
		{nil, nil, false, false},
		{[]string{}, nil, false, false},
		{[]string{""}, []string{""}, false, false},
		{[]string{"a"}, []string{"a"}, false, false},
		{[]string{"b", "a"}, []string{"a", "b"}, false, false},
		{[]string{"b", "a", "b", "a", "a"}, []string{"a", "b"}, false, false},
		{[]string{"\xff", "b", "é", "ab", "a", "\x00", "", "B", "a2", "a10"}, []string{"", "\x00", "B", "a", "a10", "a2", "ab", "b", "é", "\xff"}, false, false},
		{sixteen[:15], sixteen[:15], false, false},
		{sixteen, sixteen, false, false},
		{backward(sixteen), sixteen, false, false},
		{append(backward(sixteen), "f0007"), sixteen, false, false},
		{append(backward(sixteen), sixteen...), sixteen, false, false},
		{slices.Repeat([]string{"b", "a"}, 1000), []string{"a", "b"}, false, false},
		{slices.Repeat(sixteen, 1000), sixteen, false, false},
		{append(slices.Repeat(sixteen, 1000), "g"), nil, false, true},
		{numbered(0, 17), nil, false, true},
		{backward(numbered(0, 17)), nil, false, true},
		{append([]string{"a", "a"}, numbered(0, 16)...), nil, false, true},
		{numbered(0, 5000), nil, false, true},
		{nil, nil, true, true},
		{[]string{"a"}, nil, true, true},
		{[]string{"b", "a", "b"}, nil, true, true},
		{sixteen, nil, true, true},
		{numbered(0, 17), nil, true, true},
	} {
		what := fmt.Sprint("entry ", i)
		e := table.Entry{Group: "g", Child: 7, Filters: c.filters, Any: c.any, Till: 3}
		want := table.Entry{Group: "g", Child: 7, Filters: c.want, Any: c.wantAny, Till: 3}
		expectAll(t, what, filled(t, e), want)
		if l := filled(t, e).Move(0, 0); told(l) != told([]table.Entry{want}) {
			t.Errorf("%s: Move = %s; not %s", what, told(l), told([]table.Entry{want}))
		}
		expectAll(t, what+", put again", filled(t, anyOf("g", 7), entry("g", 7, "x"), e), want)
		expectJoin(t, what, []table.Entry{e}, c.want, c.wantAny)
		expectJoin(t, what, []table.Entry{want}, c.want, c.wantAny)
	}
}

// P13.1: of the entry that stood there nothing is left, and no other one changes.
func TestPutAgain(t *testing.T) {
	first, second, third := entry("g", 1, "a"), entry("g", 2, "a", "b"), entry("h", 2, "c")
	for i, e := range []table.Entry{
		{Group: "g", Child: 2}, {Group: "g", Child: 2, Till: -5}, {Group: "g", Child: 2, Any: true, Till: 9},
		{Group: "g", Child: 2, Filters: []string{"c"}, Till: math.MinInt}, second,
	} {
		for _, was := range []table.Entry{second, anyOf("g", 2), {Group: "g", Child: 2}} {
			x := filled(t, third, was, first)
			if err := x.Put(e); err != nil {
				t.Errorf("Put %d: %v", i, err)
			}
			expectAll(t, fmt.Sprint("Put ", i), x, first, e, third)
		}
	}
}

// full: a table of n entries; child c of group d of the n is entry 20d + c.
func full(t *testing.T, n int) *table.Table {
	t.Helper()
	var l []table.Entry
	for i := range n {
		l = append(l, entry(fmt.Sprintf("g%02d", i/20), i%20, "a", fmt.Sprint(i)))
	}
	// Not by their order, so that this isn't how they come.
	rand.New(rand.NewSource(int64(n))).Shuffle(n, func(i, j int) { l[i], l[j] = l[j], l[i] })
	return filled(t, l...)
}

// P13.1: there may be MaxEntries entries, and not one more; one that stands there already may be put.
func TestFull(t *testing.T) {
	x := full(t, 399)
	if err := x.Put(entry("g19", 19, "last")); err != nil || x.Len() != 400 {
		t.Errorf("Put of the 400th: %v, Len = %d", err, x.Len())
	}
	for _, e := range []table.Entry{entry("a", 0), entry("z", 0), entry("g00", 20), entry("g19", -1), entry("g10", 77, numbered(0, 17)...), {}, {Any: true}} {
		expectRefused(t, "Put of the 401st", x, api.ErrFull, func() error { return x.Put(e) })
	}
	want := all(x)
	for _, i := range []int{0, 1, 199, 398, 399} {
		want[i].Filters, want[i].Till = []string{"new"}, i
		if err := x.Put(want[i]); err != nil {
			t.Errorf("Put of one that is there: %v", err)
		}
		expectAll(t, "Put of one that is there", x, want...)
	}
	expectRefused(t, "Drop of none", x, api.ErrNone, func() error { return x.Drop("g00", 20) })
	if err := x.Drop("g05", 3); err != nil || x.Len() != 399 {
		t.Errorf("Drop: %v, Len = %d", err, x.Len())
	}
	if err := x.Put(entry("z", 0)); err != nil || x.Len() != 400 {
		t.Errorf("Put where one went: %v, Len = %d", err, x.Len())
	}
	expectRefused(t, "Put of the one that went", x, api.ErrFull, func() error { return x.Put(entry("g05", 3)) })
	if n := x.Forget(0); n != 21 {
		t.Errorf("Forget = %d", n)
	}
	for i := range 21 {
		if err := x.Put(entry("new", i)); err != nil {
			t.Errorf("Put where many went: %v", err)
		}
	}
	expectRefused(t, "Put, full again", x, api.ErrFull, func() error { return x.Put(entry("new", 21)) })
}

// P13.1: just the entry of this group and this child goes.
func TestDrop(t *testing.T) {
	l := []table.Entry{entry("", 0), entry("g", -1, "a"), entry("g", 1, "b"), anyOf("g", 2), entry("h", 1, "c"), entry("h", 3)}
	x := filled(t, l...)
	for _, p := range []place{{"", 1}, {"g", 0}, {"g", 3}, {"g", -2}, {"G", 1}, {"h", 2}, {"h", -1}, {"i", 1}, {"gh", 1}, {"g", math.MinInt}, {"h", math.MaxInt}} {
		expectRefused(t, fmt.Sprint("Drop ", p), x, api.ErrNone, func() error { return x.Drop(p.group, p.child) })
	}
	for _, i := range []int{2, 4, 0, 2, 0, 0} {
		gone := l[i]
		if err := x.Drop(gone.Group, gone.Child); err != nil {
			t.Errorf("Drop(%q, %d): %v", gone.Group, gone.Child, err)
		}
		l = slices.Delete(l, i, i+1)
		expectAll(t, "behind Drop", x, l...)
		expectRefused(t, "Drop, again", x, api.ErrNone, func() error { return x.Drop(gone.Group, gone.Child) })
	}
}

// P13.1: an entry holds for its Till, and no longer.
func TestExpire(t *testing.T) {
	tills := []int{math.MinInt, math.MinInt + 1, -1, 0, 1, 4, 5, 6, math.MaxInt - 1, math.MaxInt}
	var l []table.Entry
	for i, till := range tills {
		for child := range 2 {
			// The groups' order isn't that of the ticks.
			l = append(l, table.Entry{Group: fmt.Sprint("g", 9-i), Child: child, Any: child == 1, Till: till})
		}
	}
	for _, now := range []int{math.MinInt, math.MinInt + 1, -1, 0, 1, 2, 4, 5, 6, 7, math.MaxInt - 1, math.MaxInt} {
		x := filled(t, l...)
		left := slices.DeleteFunc(all(x), func(e table.Entry) bool { return e.Till < now })
		if n := x.Expire(now); n != len(l)-len(left) {
			t.Errorf("Expire(%d) = %d, not %d", now, n, len(l)-len(left))
		}
		expectAll(t, fmt.Sprint("Expire ", now), x, left...)
		if n := x.Expire(now); n != 0 {
			t.Errorf("Expire(%d), again = %d", now, n)
		}
		expectAll(t, fmt.Sprint("Expire ", now, ", again"), x, left...)
	}
	one := table.Entry{Group: "g", Till: 5}
	for _, c := range []struct{ now, want int }{{4, 0}, {5, 0}, {6, 1}} {
		if n := filled(t, one).Expire(c.now); n != c.want {
			t.Errorf("Expire(%d) of Till 5 = %d", c.now, n)
		}
	}
}

// P13.1: a child of no, one and many groups; children may be any ints.
func TestForget(t *testing.T) {
	var l []table.Entry
	for i := range 10 {
		l = append(l, entry(fmt.Sprint("g", i), 3, "a"), entry(fmt.Sprint("g", i), i%3-1))
	}
	l = append(l, entry("g4", -7), anyOf("g5", math.MinInt), anyOf("g5", math.MaxInt))
	for _, c := range []struct{ child, want int }{{3, 10}, {-7, 1}, {0, 3}, {-1, 4}, {1, 3}, {math.MinInt, 1}, {math.MaxInt, 1}, {2, 0}, {7, 0}, {-3, 0}} {
		x := filled(t, l...)
		left := slices.DeleteFunc(all(x), func(e table.Entry) bool { return e.Child == c.child })
		if n := x.Forget(c.child); n != c.want || n != len(l)-len(left) {
			t.Errorf("Forget(%d) = %d, not %d", c.child, n, c.want)
		}
		expectAll(t, "behind Forget", x, left...)
		if n := x.Forget(c.child); n != 0 {
			t.Errorf("Forget(%d), again = %d", c.child, n)
		}
	}
}

// byKey: names of groups, by their places on the ring.
func byKey(n int) []string {
	var l []string
	for i := range n {
		l = append(l, fmt.Sprintf("price.3.%d", i))
	}
	slices.SortFunc(l, func(a, b string) int {
		if group.Key(a) < group.Key(b) {
			return -1
		}
		return 1
	})
	return l
}

// expectMoved asks that just the entries of these groups go, in order.
func expectMoved(t *testing.T, x *table.Table, from, to api.Id, names ...string) {
	t.Helper()
	var moved, left []table.Entry
	for _, e := range all(x) {
		if slices.Contains(names, e.Group) {
			moved = append(moved, e)
		} else {
			left = append(left, e)
		}
	}
	if got := x.Move(from, to); told(got) != told(moved) {
		t.Errorf("Move(%d, %d) = %s; not %s", from, to, told(got), told(moved))
	}
	expectAll(t, fmt.Sprintf("behind Move(%d, %d)", from, to), x, left...)
}

// P13.1: what lies behind from, up to to, goes: the key at to, not that at from; round the top of the circle, too; all, where both are one place.
func TestMove(t *testing.T) {
	names := byKey(8)
	fresh := func() *table.Table {
		var l []table.Entry
		for i, name := range names {
			l = append(l, entry(name, 5, "b", "a"), anyOf(name, -i), entry(name, 9))
		}
		return filled(t, l...)
	}
	for i, a := range names {
		from := group.Key(a)
		for j, b := range names {
			to := group.Key(b)
			between := append(slices.Clone(names[i+1:]), names[:j]...) // behind the one, ahead of the other
			if i < j {
				between = names[i+1 : j]
			}
			behind, ahead := append(slices.Clone(between), b), append(slices.Clone(between), a)
			if i == j {
				behind, ahead = names, names
				expectMoved(t, fresh(), from-1, to, b)
				expectMoved(t, fresh(), from, to-1, between...)
				expectMoved(t, fresh(), from-1, to+1, b)
				expectMoved(t, fresh(), from+1, to-1, between...)
			} else {
				expectMoved(t, fresh(), from, to-1, between...)
				expectMoved(t, fresh(), from-1, to-1, ahead...)
				expectMoved(t, fresh(), from-1, to, append(ahead, b)...)
			}
			expectMoved(t, fresh(), from, to, behind...)
		}
		expectMoved(t, fresh(), from, top, names[i+1:]...)
		expectMoved(t, fresh(), top, from, names[:i+1]...)
		expectMoved(t, fresh(), from, 0, names[i+1:]...)
		expectMoved(t, fresh(), 0, from, names[:i+1]...)
		expectMoved(t, fresh(), from-1, from-1, names...)
		expectMoved(t, fresh(), from+1, from+1, names...)
	}
	expectMoved(t, fresh(), 0, 0, names...)
	expectMoved(t, fresh(), top, top, names...)
	expectMoved(t, fresh(), top, 0)
	expectMoved(t, fresh(), 0, top, names...)
	x := fresh()
	expectMoved(t, x, group.Key(names[2]), group.Key(names[5]), names[3:6]...)
	expectMoved(t, x, group.Key(names[2]), group.Key(names[5]))
	expectMoved(t, x, group.Key(names[5]), group.Key(names[2]), names...)
}

// P13.1: by rising groups, byte by byte, then by rising children, in whatever order they came.
func TestOrder(t *testing.T) {
	var want []table.Entry
	for _, name := range []string{"", "\x00", "A", "a", "a.10.0", "a.2.0", "ab", "b", "é", "\xff"} {
		for _, child := range []int{math.MinInt, -10, -2, -1, 0, 1, 2, 10, 31, math.MaxInt} {
			want = append(want, entry(name, child, name))
		}
	}
	dice := rand.New(rand.NewSource(13))
	for range 20 {
		l := slices.Clone(want)
		dice.Shuffle(len(l), func(i, j int) { l[i], l[j] = l[j], l[i] })
		x := filled(t, l...)
		if got := x.Groups(); len(got) != 10 || !slices.IsSorted(got) {
			t.Errorf("Groups = %q", got)
		}
		expectAll(t, "in order", x, want...)
		for _, none := range []string{"\x00\x00", "a.", "c", "A\x00", " "} {
			if l := x.Children(none); len(l) != 0 {
				t.Errorf("Children(%q) = %s", none, told(l))
			}
		}
		if got := x.Move(0, 0); told(got) != told(want) {
			t.Errorf("Move = %s", told(got))
		}
		expectAll(t, "all moved", x)
	}
}

// P13.2: of none, of one, of several; whatever else the entries are.
func TestJoin(t *testing.T) {
	one, eight := numbered(0, 16), numbered(0, 8)
	for i, c := range []struct {
		l       []table.Entry
		want    []string
		wantAny bool
	}{
		{nil, nil, false},
		{[]table.Entry{}, nil, false},
		{[]table.Entry{{}}, nil, false},
		{[]table.Entry{{}, {Group: "g", Child: -1, Till: -9}}, nil, false},
		{[]table.Entry{entry("g", 1, "b", "a", "b")}, []string{"a", "b"}, false},
		{[]table.Entry{entry("g", 1, "b"), entry("g", 2), entry("g", 3, "a")}, []string{"a", "b"}, false},
		{[]table.Entry{entry("g", 1, "b"), entry("g", 1, "c"), entry("h", 1, "a", "c")}, []string{"a", "b", "c"}, false},
		{[]table.Entry{entry("g", 1, one[8:]...), entry("g", 2, eight...)}, one, false},
		{[]table.Entry{entry("g", 1, one...), entry("g", 2, backward(one)...), entry("g", 3, eight...)}, one, false},
		{[]table.Entry{entry("g", 1, one...), entry("g", 2, "f0016")}, nil, true},
		{[]table.Entry{entry("g", 1, "a"), entry("g", 2, one...), entry("g", 3, "a")}, nil, true},
		{[]table.Entry{entry("g", 1, eight...), entry("g", 2, numbered(4, 8)...), entry("g", 3, numbered(8, 8)...)}, one, false},
		{[]table.Entry{entry("g", 1, eight...), entry("g", 2, numbered(4, 8)...), entry("g", 3, numbered(8, 9)...)}, nil, true},
		{[]table.Entry{entry("g", 1, numbered(0, 17)...), entry("g", 2)}, nil, true},
		{[]table.Entry{anyOf("g", 1)}, nil, true},
		{[]table.Entry{anyOf("g", 1), entry("g", 2, "a")}, nil, true},
		{[]table.Entry{entry("g", 2, "a"), entry("g", 3), anyOf("g", 1)}, nil, true},
		{[]table.Entry{{Any: true, Filters: one}, entry("g", 2, "a")}, nil, true},
		{[]table.Entry{entry("g", 1, one...), entry("g", 2, "x"), anyOf("g", 3)}, nil, true},
		{slices.Repeat([]table.Entry{entry("g", 1, one...)}, 1000), one, false},
	} {
		expectJoin(t, fmt.Sprint("list ", i), c.l, c.want, c.wantAny)
	}
}

// P13.2: what one of them wants is wanted, and what isn't wanted by any isn't, but where it is Any.
func TestJoinWantsWhatEachWants(t *testing.T) {
	dice := rand.New(rand.NewSource(132))
	anys := 0
	for range 20000 {
		var l []table.Entry
		each := map[string]int{}
		any := false
		for child := range dice.Intn(6) {
			e := table.Entry{Group: "g", Child: child, Any: dice.Intn(20) == 0}
			for range dice.Intn(8) {
				f := fmt.Sprint(dice.Intn(30))
				e.Filters = append(e.Filters, f)
				each[f]++
			}
			any = any || e.Any
			l = append(l, e)
		}
		got, gotAny := table.Join(l)
		if gotAny != (any || len(each) > table.MaxFilters) || !slices.IsSorted(got) {
			t.Fatalf("Join(%s) = %q, %v", told(l), got, gotAny)
		}
		if gotAny {
			anys++
			each = nil
		}
		if len(got) != len(each) {
			t.Fatalf("Join(%s) = %q, %v", told(l), got, gotAny)
		}
		for _, f := range got {
			if each[f] == 0 {
				t.Fatalf("Join(%s) = %q: nobody wants %s", told(l), got, f)
			}
			delete(each, f)
		}
	}
	if anys < 1000 || anys > 19000 {
		t.Errorf("%d were Any", anys)
	}
}

// spoil changes all that a list of entries has, and the room behind it.
func spoil(l []table.Entry) {
	for i, e := range l[:cap(l)] {
		for j := range e.Filters[:cap(e.Filters)] {
			e.Filters[:cap(e.Filters)][j] = "spoiled"
		}
		l[:cap(l)][i] = table.Entry{Group: "spoiled", Any: true}
	}
}

// K3: what is handed in stays as it is, with the room behind it, and isn't kept.
func TestNothingIsKept(t *testing.T) {
	for n := range 20 {
		room := append(backward(numbered(0, n)), "spare", "room")
		was := slices.Clone(room)
		x := filled(t, entry("g", 1, room[:n]...), entry("g", 1, room[:n]...), entry("g", 2, room[:n]...))
		want := told(all(x))
		l := []table.Entry{entry("g", 1, room[:n]...), entry("g", 2, room[:n/2]...), entry("spare", 3, "room")}
		listed := told(l)
		joined, any := table.Join(l[:2])
		kept := slices.Clone(joined)
		if !slices.Equal(room, was) || told(l) != listed {
			t.Errorf("of %d filters: %q, %s now", n, room, told(l))
		}
		for i := range room {
			room[i] = "spoiled"
		}
		spoil(l)
		expectTold(t, "behind changed arguments", x, want)
		if !slices.Equal(joined, kept) {
			t.Errorf("Join's answer is %q now, not %q, %v", joined, kept, any)
		}
	}
}

// K3: what was answered is the caller's own; it doesn't change with the table, nor the table with it, nor one answer with another one.
func TestAnswersAreNew(t *testing.T) {
	fresh := func() *table.Table {
		return filled(t, entry("g", 3, "c", "b", "a"), entry("g", 1, "a"), entry("h", 2, "b", "a"), anyOf("h", 1), entry("i", 1, numbered(0, 16)...))
	}
	x := fresh()
	want := told(all(x))
	for range 2 {
		spoil(x.Children("g"))
		spoil(x.Children("i"))
		names := x.Groups()
		for i := range names[:cap(names)] {
			names[:cap(names)][i] = "spoiled"
		}
		joined, _ := table.Join(x.Children("i"))
		clear(joined[:cap(joined)])
		expectTold(t, "behind changed answers", x, want)
	}
	first, second := x.Children("g"), x.Children("g")
	names := x.Groups()
	kept := told(first)
	spoil(second)
	x.Put(entry("g", 3, "z"))
	x.Put(entry("g", 1, "y"))
	x.Put(entry("a", 1, "x"))
	x.Drop("g", 1)
	if told(first) != kept || !slices.Equal(names, []string{"g", "h", "i"}) {
		t.Errorf("answers changed: %s, not %s; %q", told(first), kept, names)
	}
	x = fresh()
	key := group.Key("g")
	moved := x.Move(key-1, key)
	kept = told(moved)
	if len(moved) != 2 || x.Len() != 3 {
		t.Fatalf("Move = %s", kept)
	}
	for _, e := range []table.Entry{entry("g", 3, "z"), entry("g", 1, "y"), entry("a", 1, "x")} {
		x.Put(e)
	}
	if told(moved) != kept {
		t.Errorf("what was moved is %s now", told(moved))
	}
	want = told(all(x))
	spoil(moved)
	expectTold(t, "behind what was moved", x, want)
}

// K3: an answer's lists share nothing with each other, though all of them came as one.
func TestListsOfOneAnswer(t *testing.T) {
	room := numbered(0, 4)
	var l []table.Entry
	for child := range 4 {
		l = append(l, entry("g", child, room[:child]...))
	}
	for _, call := range []func(*table.Table) []table.Entry{
		func(x *table.Table) []table.Entry { return x.Children("g") },
		func(x *table.Table) []table.Entry { return x.Move(0, 0) },
	} {
		got := call(filled(t, l...))
		for i := range got {
			_ = append(got[i].Filters, "more")
			for j := range got[i].Filters {
				got[i].Filters[j] = fmt.Sprint("of ", i)
			}
		}
		for i, e := range got {
			if want := slices.Repeat([]string{fmt.Sprint("of ", i)}, i); !slices.Equal(e.Filters, want) {
				t.Errorf("%d: %q", i, e.Filters)
			}
		}
	}
}

// P13.1: names and filters may be any texts, and as long as they like.
func TestLongTexts(t *testing.T) {
	long := strings.Repeat("\xff", 100000)
	e := entry(long, -1, long+"b", long, long+"a", long)
	x := filled(t, e)
	expectAll(t, "long", x, entry(long, -1, long, long+"a", long+"b"))
	expectRefused(t, "Drop", x, api.ErrNone, func() error { return x.Drop(long+"\x00", -1) })
	key := group.Key(long)
	if l := x.Move(key, key-1); len(l) != 0 {
		t.Errorf("%d moved", len(l))
	}
	if l := x.Move(key-1, key); len(l) != 1 || x.Len() != 0 {
		t.Errorf("%d moved, %d are left", len(l), x.Len())
	}
}
