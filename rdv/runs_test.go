package rdv_test

import (
	"fmt"
	"slices"
	"testing"

	"wigwag/api"
	"wigwag/chord"
	"wigwag/ideal"
	"wigwag/rdv"
	"wigwag/table"
)

// P21.1: keepers and plans of any rings, and of circles of other rings, too.
func TestManyPlans(t *testing.T) {
	t.Parallel()
	came := map[string]int{}
	for seed := range 400 {
		d := newDraw(seed)
		names := d.names(8)
		circles := append(d.circles(names), d.circles(names)...)
		for _, c := range circles {
			for _, name := range names {
				want := plainKeepers(c, name)
				for range 2 {
					got := rdv.Keepers(c, name)
					if !slices.Equal(got, want) {
						t.Fatalf("Keepers(%q) = %v, not %v", name, got, want)
					}
					spoil(got)
				}
				came[fmt.Sprintf("%d keepers", len(want))]++
			}
		}
		for range 60 {
			was, is := one(d, circles), one(d, circles)
			asked := make([]string, 0, 20)
			for range d.Intn(12) {
				asked = append(asked, one(d, names))
			}
			before := slices.Clone(asked[:cap(asked)])
			want := plainPlan(was, is, asked)
			for range 2 {
				got := rdv.Plan(was, is, asked)
				if !slices.Equal(got, want) {
					t.Fatalf("Plan(%q) = %v, not %v", asked, got, want)
				}
				clear(got[:cap(got)])
			}
			if !slices.Equal(asked[:cap(asked)], before) {
				t.Fatalf("the names were changed: %q", asked[:cap(asked)])
			}
			for _, m := range want {
				at := slices.Index(plainKeepers(was, m.Group), m.From)
				came[fmt.Sprintf("from keeper %d", at)]++
				if !slices.Contains(plainKeepers(is, m.Group), m.From) {
					came["from one that keeps no more"]++
				}
			}
			came[fmt.Sprintf("%d moves", min(len(want), 9))]++
		}
	}
	met(t, came, 300, "0 keepers", "3 keepers", "from keeper 0", "from keeper 1", "from keeper 2", "from one that keeps no more", "0 moves", "1 moves", "5 moves", "9 moves")
}

// anyMoves: by a plan, or any.
func (d draw) anyMoves(names []string, circles []ideal.Circle) []rdv.Move {
	if d.Intn(3) == 0 {
		return rdv.Plan(one(d, circles), one(d, circles), names)
	}
	l := []rdv.Move{}
	for range d.Intn(8) {
		m := rdv.Move{Group: one(d, names), From: d.Intn(14), To: d.Intn(14)}
		if d.Intn(8) == 0 {
			m.From = one(d, odd)
		}
		if d.Intn(8) == 0 {
			m.To = one(d, odd)
		}
		l = append(l, m)
	}
	return l
}

// anyCall makes one call of a store and of its twin.
func (d draw) anyCall(w *twin, circles []ideal.Circle, children int) {
	w.t.Helper()
	switch k := d.Intn(100); {
	case k < 50:
		w.Put(one(d, circles), d.entry(w.names, children))
	case k < 75:
		w.Do(d.anyMoves(w.names, circles))
	case k < 85:
		n := d.Intn(14)
		if d.Intn(5) == 0 {
			n = one(d, odd)
		}
		w.Gone(n)
	case k < 92:
		w.Trim(one(d, circles))
	default:
		w.checkMember(d.Intn(14))
	}
}

// P21.1: many rows of any calls, behind each of which the store is held against plain lists.
func TestManyRuns(t *testing.T) {
	t.Parallel()
	came := map[string]int{}
	for seed := range 100 {
		d := newDraw(5000 + seed)
		names := d.names(1 + d.Intn(6))
		circles := d.circles(names)
		w := newTwin(t, names, came)
		for range 150 {
			d.anyCall(w, circles, 1+d.Intn(6))
			w.check()
		}
	}
	met(t, came, 500, "Put: ok", "Put: none", "Do: ok", "in another one's place", "moved", "lost", "forgotten")
}

// P21.1: likewise, with tables that are nearly full, and full.
func TestCrowdedRuns(t *testing.T) {
	t.Parallel()
	came := map[string]int{}
	for seed := range 20 {
		d := newDraw(6000 + seed)
		names := d.names(2 + d.Intn(3))
		circles := d.circles(names)[1:]
		w := newTwin(t, names, came)
		for child := range 380 {
			w.Put(one(d, circles[:min(2, len(circles))]), wish(names[0], child))
		}
		for i := range 200 {
			if d.Intn(4) > 0 {
				w.Put(one(d, circles), d.entry(names, 500))
			} else {
				w.Do(d.anyMoves(names, circles))
			}
			if i%20 == 0 {
				w.check()
			}
		}
		w.Gone(d.Intn(4))
		w.Trim(one(d, circles))
		w.check()
	}
	met(t, came, 100, "Put: ok", "Put: full", "Do: ok", "Do: full", "in another one's place", "moved")
}

// town is a ring, a store that keeps wishes by plans, and what was put.
type town struct {
	draw
	t     *testing.T
	r     *chord.Ring
	s     *rdv.Store
	names []string
	was   ideal.Circle // by which the last plan was made
	put   map[string]table.Entry
	joins int // of eight
	came  map[string]int
}

// wish: one more, or a new one of a group and child.
func (w *town) wish() {
	w.t.Helper()
	x := w.entry(w.names, 4)
	must(w.t, w.s.Put(w.was, x))
	w.put[fmt.Sprint(x.Group, " ", x.Child)] = cleaned(x)
}

// change: members come, and at most so many go.
func (w *town) change(goings int) {
	for range w.Intn(60) {
		switch k := w.Intn(8); {
		case k < w.joins:
			_ = w.r.Join(w.Intn(api.MaxNodes), w.place(w.r, w.names), one(w.draw, w.r.Live()))
		case k < 4:
			w.r.Round()
		case k < 6 && goings > 0:
			if n := w.goer(); w.r.Fail(n) == nil {
				goings--
				w.came["gone"]++
				w.s.Gone(n)
			}
		case k == 6:
			w.wish()
		}
	}
	w.came[fmt.Sprintf("%d more might have gone", goings)]++
}

// goer: often a keeper.
func (w *town) goer() int {
	l := rdv.Keepers(w.was, one(w.draw, w.names))
	if w.Intn(4) == 0 {
		l = w.r.Live()
	}
	return one(w.draw, l)
}

// plan is made, and done.
func (w *town) plan() {
	w.t.Helper()
	is := ideal.Of(w.r)
	l := rdv.Plan(w.was, is, w.names)
	must(w.t, w.s.Do(l))
	w.was = is
	w.came[fmt.Sprintf("%d moves", min(len(l), 9))]++
	if w.Intn(3) == 0 {
		w.s.Trim(is)
		w.came["trimmed"]++
	}
}

// lost: of a wish that was put, a keeper that doesn't have it; none.
func (w *town) lost() string {
	for _, x := range w.put {
		for _, n := range plainKeepers(w.was, x.Group) {
			if !slices.ContainsFunc(w.s.Wishes(n, x.Group), func(o table.Entry) bool { return told([]table.Entry{o}) == told([]table.Entry{x}) }) {
				return fmt.Sprintf("%d doesn't have %s: %s", n, told([]table.Entry{x}), told(w.s.Wishes(n, x.Group)))
			}
		}
	}
	return ""
}

func newTown(t *testing.T, seed int, came map[string]int) *town {
	d := newDraw(seed)
	names := d.names(1 + d.Intn(8))
	r := d.founded(names)
	return &town{draw: d, t: t, r: r, s: rdv.New(), names: names, was: ideal.Of(r), put: map[string]table.Entry{}, joins: d.Intn(4), came: came}
}

// P21.2: members come, leave and crash; no more than two go between two plans, each of which is done: each wish that was put is at all keepers of its group.
func TestKept(t *testing.T) {
	t.Parallel()
	came := map[string]int{}
	for seed := range 300 {
		w := newTown(t, 7000+seed, came)
		for range 12 {
			for range w.Intn(6) {
				w.wish()
			}
			w.change(w.Intn(rdv.Copies + 1))
			w.plan()
			if fault := w.lost(); fault != "" {
				t.Fatalf("P21.2: seed %d: %s", seed, fault)
			}
		}
		came[fmt.Sprintf("%d live", len(w.r.Live())/8*8)]++
	}
	met(t, came, 20, "gone", "0 more might have gone", "trimmed", "0 moves", "1 moves", "9 moves", "0 live", "8 live", "16 live")
}

// P21.2: if three go at once a wish may be lost: it is just the two that are promised.
func TestLost(t *testing.T) {
	t.Parallel()
	came := map[string]int{}
	lost := 0
	for seed := range 200 {
		w := newTown(t, 8000+seed, came)
		for range 12 {
			for range w.Intn(6) {
				w.wish()
			}
			w.change(rdv.Copies + 1)
			w.plan()
		}
		if w.lost() != "" {
			lost++
		}
	}
	if lost == 0 {
		t.Error("none was lost: these runs tell nothing")
	}
}
