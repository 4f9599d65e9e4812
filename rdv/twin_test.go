package rdv_test

import (
	"fmt"
	"maps"
	"math/rand"
	"slices"
	"testing"

	"wigwag/api"
	"wigwag/chord"
	"wigwag/group"
	"wigwag/ideal"
	"wigwag/rdv"
	"wigwag/ring"
	"wigwag/table"
)

// draw is dice that know what stores are made of.
type draw struct {
	*rand.Rand
}

func newDraw(seed int) draw { return draw{rand.New(rand.NewSource(int64(seed)))} }

func one[T any](d draw, l []T) T { return l[d.Intn(len(l))] }

// names: of groups, and any other texts.
func (d draw) names(n int) []string {
	l := []string{"", "g", "\xff\xfe", "price.0.0"}
	for len(l) < n+4 {
		l = append(l, fmt.Sprintf("%s.%d.%d", one(d, []string{"price", "tag", "a"}), d.Intn(9), d.Intn(256)))
	}
	d.Shuffle(len(l), func(i, j int) { l[i], l[j] = l[j], l[i] })
	return l[:n]
}

// entry: a wish of one of these groups, of a child of few; there is room behind its filters that isn't the store's.
func (d draw) entry(names []string, children int) table.Entry {
	x := table.Entry{Group: one(d, names), Child: d.Intn(children), Any: d.Intn(6) == 0, Till: d.Intn(40) - 5}
	if d.Intn(20) == 0 {
		x.Child = one(d, odd)
	}
	most := one(d, []int{0, 2, 5, 20})
	x.Filters = make([]string, 0, most+3)
	for range d.Intn(most + 1) {
		x.Filters = append(x.Filters, fmt.Sprint("f", d.Intn(25)))
	}
	return x
}

// place: near a group's key, near a member's place, or any.
func (d draw) place(r *chord.Ring, names []string) api.Id {
	near := api.Id(d.Intn(5)) - 2
	switch d.Intn(4) {
	case 0:
		return group.Key(one(d, names)) + near
	case 1:
		return r.Id(one(d, r.Live())) + near
	}
	return api.Id(d.Uint64())
}

// founded: a ring of base members; often all of them lie at a group's key.
func (d draw) founded(names []string) *chord.Ring {
	for {
		near := d.Intn(3) == 0
		var ids []api.Id
		for range chord.Base {
			id := api.Id(d.Uint64())
			if near {
				id = group.Key(names[0]) + api.Id(d.Intn(20)) - 10
			}
			ids = append(ids, id)
		}
		if r, err := chord.New(ids); err == nil {
			return r
		}
	}
}

// circles: of one ring while members come and go; and the empty one.
func (d draw) circles(names []string) []ideal.Circle {
	r := d.founded(names)
	l := []ideal.Circle{{}, ideal.Of(r)}
	for range 60 {
		switch d.Intn(4) {
		case 0:
			_ = r.Fail(one(d, r.Live()))
		case 1:
			r.Round()
		default:
			_ = r.Join(d.Intn(12), d.place(r, names), 0)
		}
		if d.Intn(10) == 0 {
			l = append(l, ideal.Of(r))
		}
	}
	return append(l, ideal.Of(r))
}

// member is one that a circle tells of.
type member struct {
	n    int
	far  api.Id // from a group's key on
	succ []int
}

// plainKeepers: of all members of a circle the three that are least far from a group's key on.
func plainKeepers(c ideal.Circle, name string) []int {
	var l []member
	for n := range api.MaxNodes {
		if p, ok := c.Peer(n); ok {
			l = append(l, member{n: n, far: p.Id - ring.Hash("group "+name)})
		}
	}
	slices.SortFunc(l, func(a, b member) int {
		if a.far < b.far {
			return -1
		}
		return 1
	})
	var keepers []int
	for _, m := range l[:min(3, len(l))] {
		keepers = append(keepers, m.n)
	}
	return keepers
}

// plainPlan: what goes where: of all moves that there might be, in order, those that should be.
func plainPlan(was, is ideal.Circle, names []string) []rdv.Move {
	each := map[string]int{}
	for _, name := range names {
		each[name]++
	}
	var l []rdv.Move
	for _, name := range slices.Sorted(maps.Keys(each)) {
		old, now := plainKeepers(was, name), plainKeepers(is, name)
		from := -1
		for i := len(old) - 1; i >= 0; i-- {
			if _, stays := is.Peer(old[i]); stays {
				from = old[i]
			}
		}
		for to := range api.MaxNodes {
			if from >= 0 && slices.Contains(now, to) && !slices.Contains(old, to) {
				l = append(l, rdv.Move{Group: name, From: from, To: to})
			}
		}
	}
	return l
}

// twin is a store, and the same told a second time: for each member a plain list of wishes, as they came.
type twin struct {
	t      *testing.T
	s      *rdv.Store
	has    map[int][]table.Entry
	names  []string
	counts map[string]int // what was met on the way
}

func newTwin(t *testing.T, names []string, counts map[string]int) *twin {
	return &twin{t: t, s: rdv.New(), has: map[int][]table.Entry{}, names: names, counts: counts}
}

// cleaned: as chapter 13 has it.
func cleaned(x table.Entry) table.Entry {
	each := map[string]int{}
	for _, f := range x.Filters {
		each[f]++
	}
	x.Filters = slices.Sorted(maps.Keys(each))
	if x.Any || len(each) > 16 {
		x.Filters, x.Any = nil, true
	}
	return x
}

// put: at one member; is there room?
func (w *twin) put(n int, x table.Entry) bool {
	for i, o := range w.has[n] {
		if o.Group == x.Group && o.Child == x.Child {
			w.has[n][i] = cleaned(x)
			w.counts["in another one's place"]++
			return true
		}
	}
	if len(w.has[n]) == 400 {
		w.counts["full"]++
		return false
	}
	w.has[n] = append(w.has[n], cleaned(x))
	return true
}

// wishes: of a group, at a member.
func (w *twin) wishes(n int, name string) []table.Entry {
	l := slices.DeleteFunc(slices.Clone(w.has[n]), func(x table.Entry) bool { return x.Group != name })
	slices.SortFunc(l, func(a, b table.Entry) int {
		if a.Child < b.Child {
			return -1
		}
		return 1
	})
	return l
}

func (w *twin) expect(what string, err error, want api.Code) {
	w.t.Helper()
	if api.Of(err) != want || (err == nil) != (want == api.OK) {
		w.t.Fatalf("%s: %v, not %v", what, err, want)
	}
	w.counts[what+": "+want.Error()]++
}

// Put: what is handed in is spoilt behind the call.
func (w *twin) Put(c ideal.Circle, x table.Entry) {
	w.t.Helper()
	want := api.OK
	keepers := plainKeepers(c, x.Group)
	if len(keepers) == 0 {
		want = api.ErrNone
	}
	for _, n := range keepers {
		if !w.put(n, x) {
			want = api.ErrFull
			break
		}
	}
	w.expect("Put", w.s.Put(c, x), want)
	spoilEntries([]table.Entry{x})
}

func (w *twin) Do(l []rdv.Move) {
	w.t.Helper()
	want := w.done(l)
	l = append(make([]rdv.Move, 0, len(l)+2), l...)
	w.expect("Do", w.s.Do(l), want)
	for i := range l {
		l[i] = rdv.Move{Group: "spoilt", From: 99, To: 98}
	}
	if room := l[:cap(l)]; room[len(l)] != (rdv.Move{}) {
		w.t.Fatalf("the room behind the moves was changed: %v", room)
	}
}

func (w *twin) done(l []rdv.Move) api.Code {
	for _, m := range l {
		for _, x := range w.wishes(m.From, m.Group) {
			if !w.put(m.To, x) {
				return api.ErrFull
			}
			w.counts["moved"]++
		}
	}
	return api.OK
}

func (w *twin) Gone(n int) {
	if len(w.has[n]) > 0 {
		w.counts["lost"]++
	}
	w.has[n] = nil
	w.s.Gone(n)
}

func (w *twin) Trim(c ideal.Circle) {
	for n := range w.has {
		left := slices.DeleteFunc(slices.Clone(w.has[n]), func(x table.Entry) bool { return !slices.Contains(plainKeepers(c, x.Group), n) })
		if len(left) < len(w.has[n]) {
			w.counts["forgotten"]++
		}
		w.has[n] = left
	}
	w.s.Trim(c)
}

// check asks for all that a store has; what it answers is spoilt, and asked for again.
func (w *twin) check() {
	w.t.Helper()
	for n := -3; n < 36; n++ {
		w.checkMember(n)
	}
	for _, n := range odd {
		w.checkMember(n)
	}
}

func (w *twin) checkMember(n int) {
	w.t.Helper()
	for _, name := range append([]string{"nobody's"}, w.names...) {
		want := told(w.wishes(n, name))
		for range 2 {
			l := w.s.Wishes(n, name)
			if got := told(l); got != want {
				w.t.Fatalf("Wishes(%d, %q) = %s, not %s", n, name, got, want)
			}
			spoilEntries(l)
		}
	}
}

// met makes sure that the runs came to all that they are for.
func met(t *testing.T, came map[string]int, least int, l ...string) {
	t.Helper()
	for _, what := range l {
		if came[what] < least {
			t.Errorf("%s: %d times: %v", what, came[what], came)
		}
	}
}
