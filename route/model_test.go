package route_test

import (
	"errors"
	"fmt"
	"math"
	"math/rand"
	"slices"
	"testing"

	"wigwag/api"
	"wigwag/chord"
	"wigwag/ideal"
	"wigwag/peer"
	"wigwag/route"
)

const top = math.MaxUint64

// wrong are ints that no member has as its address.
var wrong = []int{peer.None, -2, -32, 32, 33, 64, 1 << 40, math.MinInt, math.MaxInt}

// met: is x met on the way from a on to b, told without distances?
func met(x, a, b api.Id) bool {
	switch {
	case a == b:
		return true
	case a < b:
		return a < x && x <= b
	}
	return x > a || x <= b
}

// both is a ring with its fingers, and these told a second time.
type both struct {
	t      *testing.T
	r      *chord.Ring
	f      *route.Fingers
	lists  map[int][]int
	counts map[string]int // what was met on the way
}

func start(t *testing.T, ids ...api.Id) *both {
	t.Helper()
	r, err := chord.New(ids)
	if err != nil {
		t.Fatalf("New(%v): %v", ids, err)
	}
	return &both{t: t, r: r, f: route.New(r), lists: map[int][]int{}, counts: map[string]int{}}
}

// tens: the base members of the chapter's example.
func tens(t *testing.T) *both {
	t.Helper()
	return start(t, 10, 20, 30, 40)
}

// next: of those that n knows, and that live ahead of x, the one that is the farthest from n on.
func (b *both) next(n int, x api.Id) (int, api.Code) {
	p, err := b.r.Peer(n)
	if err != nil {
		return peer.None, api.ErrDead
	}
	if x == p.Id || b.r.Lives(p.Pred) && met(x, b.r.Id(p.Pred), p.Id) {
		return n, api.OK
	}
	known := slices.DeleteFunc(p.Succ, func(o int) bool { return !b.r.Lives(o) })
	if best := known[0]; met(x, p.Id, b.r.Id(best)) {
		return best, api.OK
	}
	best, far := peer.None, api.Id(0)
	for _, o := range append(known, b.lists[n]...) {
		if d := b.r.Id(o) - p.Id; b.r.Lives(o) && d > far && d < x-p.Id {
			best, far = o, d
		}
	}
	return best, api.OK
}

// path: from one to the next, till nobody else is asked, or one comes again.
func (b *both) path(n int, x api.Id) ([]int, api.Code) {
	if !b.r.Lives(n) {
		return nil, api.ErrDead
	}
	way := []int{n}
	for {
		next, _ := b.next(way[len(way)-1], x)
		if next == way[len(way)-1] {
			return way, api.OK
		}
		if slices.Contains(way, next) {
			// It would go on so without end.
			b.counts["round and round"]++
			return nil, api.ErrHops
		}
		way = append(way, next)
	}
}

// fixed: what Fix makes of the fingers of one that lives.
func (b *both) fixed(n int) []int {
	var l []int
	step := api.Id(1)
	for range 64 {
		way, code := b.path(n, b.r.Id(n)+step)
		step *= 2
		if code != api.OK {
			b.counts["finger without a way"]++
		} else if end := way[len(way)-1]; len(l) == 0 || l[len(l)-1] != end {
			l = append(l, end)
		}
	}
	return l
}

func (b *both) fix(n int) {
	b.t.Helper()
	want := api.ErrDead
	var list []int
	if b.r.Lives(n) {
		want, list = api.OK, b.fixed(n)
	}
	b.expectCode(fmt.Sprintf("Fix(%d)", n), b.f.Fix(n), want)
	if want == api.OK {
		b.lists[n] = list
	}
	b.lookLists()
}

func (b *both) round() {
	b.t.Helper()
	b.f.Round()
	for n := range api.MaxNodes {
		if b.r.Lives(n) {
			b.lists[n] = b.fixed(n)
		}
	}
	b.lookLists()
}

// set gives an address any fingers.
func (b *both) set(n int, l ...int) {
	b.f.Set(n, l)
	b.lists[n] = l
}

// lookLists holds the fingers of all addresses against the model's.
func (b *both) lookLists() {
	b.t.Helper()
	for n := range api.MaxNodes {
		if got := b.f.Of(n); !slices.Equal(got, b.lists[n]) {
			b.t.Fatalf("Of(%d) = %v, not %v", n, got, b.lists[n])
		}
	}
	for _, n := range wrong {
		if got := b.f.Of(n); len(got) != 0 {
			b.t.Fatalf("Of(%d) = %v", n, got)
		}
	}
}

// lookWay holds Next and Path against the model.
func (b *both) lookWay(n int, x api.Id) {
	b.t.Helper()
	want, code := b.next(n, x)
	b.expectNext(n, x, want, code)
	way, code := b.path(n, x)
	b.expectPath(n, x, code, way...)
}

// look asks all addresses, each for some of the places.
func (b *both) look(g *rand.Rand) {
	b.t.Helper()
	b.lookLists()
	places := b.probes(g)
	for n := -1; n <= api.MaxNodes; n++ {
		b.lookWay(n, places[g.Intn(len(places))])
		p, err := b.r.Peer(n)
		if err != nil {
			continue
		}
		for range 4 {
			b.lookWay(n, places[g.Intn(len(places))])
			b.lookOwns(p, places[g.Intn(len(places))])
		}
	}
}

func (b *both) lookOwns(p peer.Peer, x api.Id) {
	b.t.Helper()
	want := b.r.Lives(p.Pred) && met(x, b.r.Id(p.Pred), p.Id)
	if got := route.Owns(p, x, b.r); got != want {
		b.t.Fatalf("Owns(%v, %d) = %v", p, x, got)
	}
}

// probes are places at, just ahead of and just behind each that a member has or had, at the ends of the circle, and any.
func (b *both) probes(g *rand.Rand) []api.Id {
	l := []api.Id{0, 1, top, top - 1, 1 << 63, api.Id(g.Uint64()), api.Id(g.Uint64())}
	for n := range api.MaxNodes {
		l = append(l, b.r.Id(n)-1, b.r.Id(n), b.r.Id(n)+1)
	}
	return l
}

func (b *both) expectCode(call string, err error, want api.Code) {
	b.t.Helper()
	if want == api.OK && err != nil || want != api.OK && !errors.Is(err, want) || api.Of(err) != want {
		b.t.Fatalf("%s: %v, not %v", call, err, want)
	}
}

func (b *both) expectNext(n int, x api.Id, want int, code api.Code) {
	b.t.Helper()
	got, err := b.f.Next(n, x)
	b.expectCode(fmt.Sprintf("Next(%d, %d)", n, x), err, code)
	if got != want {
		b.t.Fatalf("Next(%d, %d) = %d, not %d", n, x, got, want)
	}
	b.counts["Next "+code.Error()]++
}

func (b *both) expectPath(n int, x api.Id, code api.Code, want ...int) {
	b.t.Helper()
	got, err := b.f.Path(n, x)
	b.expectCode(fmt.Sprintf("Path(%d, %d)", n, x), err, code)
	if !slices.Equal(got, want) {
		b.t.Fatalf("Path(%d, %d) = %v, not %v", n, x, got, want)
	}
	b.counts["Path "+code.Error()]++
}

func (b *both) expectFingers(n int, want ...int) {
	b.t.Helper()
	if got := b.f.Of(n); !slices.Equal(got, want) {
		b.t.Fatalf("Of(%d) = %v, not %v", n, got, want)
	}
}

// expectPeer makes sure of what a test leans on.
func (b *both) expectPeer(n, pred int, succ ...int) {
	b.t.Helper()
	if p, err := b.r.Peer(n); err != nil || p.Pred != pred || !slices.Equal(p.Succ, succ) {
		b.t.Fatalf("Peer(%d) = %v, %v; not %d, %v", n, p, err, pred, succ)
	}
}

// must fails the test if a call that it leans on was refused.
func (b *both) must(err error) {
	b.t.Helper()
	if err != nil {
		b.t.Fatal(err)
	}
}

// settle lets the ring come to rest.
func (b *both) settle() {
	b.t.Helper()
	for range ideal.Rounds(len(b.r.Live())) {
		b.r.Round()
	}
	if !ideal.Is(b.r) {
		b.t.Fatal("the ring doesn't come to rest")
	}
}

// lookCalm looks at P12.2, member by member, on a ring on which all is as it should be.
func (b *both) lookCalm(g *rand.Rand) {
	b.t.Helper()
	c := ideal.Of(b.r)
	for _, x := range b.probes(g) {
		for _, n := range b.r.Live() {
			way, err := b.f.Path(n, x)
			if err != nil || len(way) == 0 || way[0] != n || way[len(way)-1] != c.Owner(x) {
				b.t.Fatalf("P12.2: Path(%d, %d) = %v, %v; the owner is %d", n, x, way, err, c.Owner(x))
			}
			sorted := slices.Sorted(slices.Values(way))
			if len(slices.Compact(sorted)) != len(way) {
				b.t.Fatalf("P12.2: Path(%d, %d) = %v", n, x, way)
			}
		}
	}
}

// lookFingers: likewise, behind a Round: are the fingers those that should be?
func (b *both) lookFingers() {
	b.t.Helper()
	c := ideal.Of(b.r)
	for _, n := range b.r.Live() {
		var want []int
		for k := range 64 {
			if o := c.Finger(n, k); len(want) == 0 || o != want[len(want)-1] {
				want = append(want, o)
			}
		}
		b.expectFingers(n, want...)
	}
}

// anyFingers gives all addresses fingers that nobody would make: dead ones, none, themselves, ints that are no address.
func (b *both) anyFingers(g *rand.Rand) {
	for n := range api.MaxNodes {
		var l []int
		for range g.Intn(12) {
			o := g.Intn(api.MaxNodes)
			if g.Intn(4) == 0 {
				o = wrong[g.Intn(len(wrong))]
			}
			l = append(l, o)
		}
		b.set(n, l...)
	}
}

// drawn: a place near one of few, so that places come again, and many lie side by side; often any.
func drawn(g *rand.Rand) api.Id {
	if g.Intn(2) == 0 {
		return api.Id(g.Uint64())
	}
	return []api.Id{0, 1 << 20, 1 << 62, top - 5}[g.Intn(4)] + api.Id(g.Intn(12))
}

// anyStart: base members at drawn places.
func anyStart(t *testing.T, g *rand.Rand) *both {
	var ids []api.Id
	for len(ids) < chord.Base {
		if id := drawn(g); !slices.Contains(ids, id) {
			ids = append(ids, id)
		}
	}
	return start(t, ids...)
}

// anyCall makes one call of the ring or of the fingers: so many of a hundred are Join, so many Join or Fail.
func (b *both) anyCall(g *rand.Rand, joins, goings int) {
	b.t.Helper()
	live := b.r.Live()
	one := live[g.Intn(len(live))]
	switch k := g.Intn(100); {
	case k < joins:
		_ = b.r.Join(g.Intn(api.MaxNodes), drawn(g), one)
	case k < goings:
		_ = b.r.Fail(one)
	case k < 80:
		_ = b.r.Stabilize(one)
	case k < 82:
		b.r.Round()
	case k < 84:
		b.round()
	case k < 86:
		b.fix(g.Intn(api.MaxNodes+8) - 4)
	default:
		b.fix(one)
	}
}
