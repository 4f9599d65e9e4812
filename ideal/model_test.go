package ideal_test

import (
	"cmp"
	"fmt"
	"math"
	"math/rand"
	"slices"
	"testing"

	"wigwag/api"
	"wigwag/chord"
	"wigwag/ideal"
	"wigwag/peer"
)

const top = math.MaxUint64

// wrong are ints that no member has as its address.
var wrong = []int{peer.None, -2, -32, 32, 33, 64, 1 << 40, math.MinInt, math.MaxInt}

// members: those that live, asked one by one.
func members(r *chord.Ring) []int {
	var l []int
	for n := range api.MaxNodes {
		if r.Lives(n) {
			l = append(l, n)
		}
	}
	return l
}

// owner: who of those that live is least far from a place on.
func owner(r *chord.Ring, x api.Id) int {
	best := peer.None
	for n := range api.MaxNodes {
		if r.Lives(n) && (best == peer.None || r.Id(n)-x < r.Id(best)-x) {
			best = n
		}
	}
	return best
}

// should: what a member that lives should know.
func should(r *chord.Ring, n int) peer.Peer {
	others := slices.DeleteFunc(members(r), func(o int) bool { return o == n })
	at := r.Id(n)
	ahead := slices.MinFunc(others, func(a, b int) int { return cmp.Compare(at-r.Id(a), at-r.Id(b)) })
	slices.SortFunc(others, func(a, b int) int { return cmp.Compare(r.Id(a)-at, r.Id(b)-at) })
	return peer.Peer{Id: at, Pred: ahead, Succ: others[:3]}
}

// settled: does each member know what it should, field by field?
func settled(r *chord.Ring) bool {
	for _, n := range members(r) {
		want := should(r, n)
		p, err := r.Peer(n)
		if err != nil || p.Id != want.Id || p.Pred != want.Pred || !slices.Equal(p.Succ, want.Succ) {
			return false
		}
	}
	return true
}

// probes are places at, just ahead of and just behind each that a member has or had, and at the ends of the circle.
func probes(r *chord.Ring) []api.Id {
	l := []api.Id{0, 1, top, top - 1, 1 << 63}
	for n := range api.MaxNodes {
		l = append(l, r.Id(n)-1, r.Id(n), r.Id(n)+1)
	}
	return l
}

// power: 2^k, doubled step by step.
func power(k int) api.Id {
	x := api.Id(1)
	for range k {
		x *= 2
	}
	return x
}

// circleFault holds all that a circle answers against the words of the chapter; "", if they agree.
func circleFault(c ideal.Circle, r *chord.Ring) string {
	if got, want := c.Len(), len(members(r)); got != want {
		return fmt.Sprintf("Len = %d, not %d", got, want)
	}
	for _, x := range probes(r) {
		if got, want := c.Owner(x), owner(r, x); got != want {
			return fmt.Sprintf("Owner(%d) = %d, not %d", x, got, want)
		}
	}
	for n := -2; n < api.MaxNodes+2; n++ {
		if fault := memberFault(c, r, n); fault != "" {
			return fault
		}
	}
	return ""
}

// memberFault: likewise, of what it answers of one address.
func memberFault(c ideal.Circle, r *chord.Ring, n int) string {
	got, ok := c.Peer(n)
	if !r.Lives(n) {
		return strangerFault(c, n)
	}
	want := should(r, n)
	if !ok || got.Id != want.Id || got.Pred != want.Pred || !slices.Equal(got.Succ, want.Succ) {
		return fmt.Sprintf("Peer(%d) = %v, %v; not %v", n, got, ok, want)
	}
	for k := range 64 {
		if got, want := c.Finger(n, k), owner(r, r.Id(n)+power(k)); got != want {
			return fmt.Sprintf("Finger(%d, %d) = %d, not %d", n, k, got, want)
		}
	}
	for _, k := range []int{-1, 64, -64, 65, 128, math.MinInt, math.MaxInt} {
		if got := c.Finger(n, k); got != peer.None {
			return fmt.Sprintf("Finger(%d, %d) = %d", n, k, got)
		}
	}
	return ""
}

// strangerFault: likewise, of an address that isn't one of the circle's.
func strangerFault(c ideal.Circle, n int) string {
	if p, ok := c.Peer(n); ok || p.Id != 0 || p.Pred != 0 || len(p.Succ) != 0 {
		return fmt.Sprintf("Peer(%d) = %v, %v", n, p, ok)
	}
	for _, k := range []int{-1, 0, 1, 31, 63, 64} {
		if got := c.Finger(n, k); got != peer.None {
			return fmt.Sprintf("Finger(%d, %d) = %d", n, k, got)
		}
	}
	return ""
}

// look asks all calls of the package, of a ring as it is.
func look(t *testing.T, r *chord.Ring) {
	t.Helper()
	if fault := circleFault(ideal.Of(r), r); fault != "" {
		t.Fatal(fault)
	}
	if got := ideal.Is(r); got != settled(r) {
		t.Fatalf("Is = %v", got)
	}
}

// calm lets the ring come to rest, and looks at P11.2 behind it, member by member.
func calm(t *testing.T, r *chord.Ring) {
	t.Helper()
	live := members(r)
	for range ideal.Rounds(len(live)) {
		r.Round()
	}
	for extra := range 4 {
		if !ideal.Is(r) {
			t.Fatalf("P11.2: Is says no, %d rounds later than it should", extra)
		}
		for _, n := range live {
			got, err := r.Peer(n)
			if want := should(r, n); err != nil || got.Id != want.Id || got.Pred != want.Pred || !slices.Equal(got.Succ, want.Succ) {
				t.Fatalf("P11.2: %d knows %v, %v; not %v", n, got, err, want)
			}
		}
		if !slices.Equal(members(r), live) {
			t.Fatalf("%v live, then %v", live, members(r))
		}
		r.Round()
	}
}

func founded(t *testing.T, ids ...api.Id) *chord.Ring {
	t.Helper()
	r, err := chord.New(ids)
	if err != nil {
		t.Fatalf("New(%v): %v", ids, err)
	}
	return r
}

// tens: the base members of the chapter's example.
func tens(t *testing.T) *chord.Ring {
	t.Helper()
	return founded(t, 10, 20, 30, 40)
}

// must fails the test if a call of the ring that it leans on was refused.
func must(t *testing.T, err error) {
	t.Helper()
	if err != nil {
		t.Fatal(err)
	}
}

// drawn: a place near one of few, so that places come again, and many lie side by side; now and then any.
func drawn(g *rand.Rand) api.Id {
	if g.Intn(4) == 0 {
		return api.Id(g.Uint64())
	}
	return []api.Id{0, 1 << 20, 1 << 62, top - 5}[g.Intn(4)] + api.Id(g.Intn(12))
}

// anyRing: base members at drawn places.
func anyRing(t *testing.T, g *rand.Rand) *chord.Ring {
	var ids []api.Id
	for len(ids) < chord.Base {
		if id := drawn(g); !slices.Contains(ids, id) {
			ids = append(ids, id)
		}
	}
	return founded(t, ids...)
}

// anyCall makes one call on a ring: so many of a hundred are Join, so many Join or Fail.
func anyCall(r *chord.Ring, g *rand.Rand, joins, goings int) {
	live := members(r)
	one := live[g.Intn(len(live))]
	switch k := g.Intn(100); {
	case k < joins:
		_ = r.Join(g.Intn(api.MaxNodes), drawn(g), one)
	case k < goings:
		_ = r.Fail(one)
	case k < 97:
		_ = r.Stabilize(one)
	default:
		r.Round()
	}
}
