package window_test

import (
	"errors"
	"fmt"
	"math"
	"math/rand"
	"testing"

	"wigwag/api"
	"wigwag/window"
)

const greatest = 1 << 30

// event is what no two events share.
type event struct{ pub, n int }

// both is a window, and the same told a second time: all that ever came, and the greatest number of each publisher.
type both struct {
	t    *testing.T
	w    *window.Window
	came map[event]int
	last map[int]int
}

func start(t *testing.T) *both {
	return &both{t: t, w: &window.Window{}, came: map[event]int{}, last: map[int]int{}}
}

// come asks what the chapter says of an event, and returns it.
func (b *both) come(pub, n int) int {
	b.t.Helper()
	want := window.New
	if b.last[pub]-64 >= n {
		want = window.Stale
	} else if b.came[event{pub, n}] > 0 {
		want = window.Twice
	}
	if got, err := b.w.Come(pub, n); got != want || err != nil {
		b.t.Fatalf("Come(%d, %d), where the last is %d: %d, %v; not %d", pub, n, b.last[pub], got, err, want)
	}
	if want == window.New {
		b.came[event{pub, n}]++
		b.last[pub] = max(b.last[pub], n)
	}
	if b.came[event{pub, n}] > 1 {
		b.t.Fatalf("%d of %d is New twice", n, pub)
	}
	b.expectLast(pub)
	return want
}

func (b *both) expectLast(pub int) {
	b.t.Helper()
	if got := b.w.Last(pub); got != b.last[pub] {
		b.t.Fatalf("Last(%d) = %d, not %d", pub, got, b.last[pub])
	}
}

// expectCome asks for an answer that the test tells itself.
func (b *both) expectCome(pub, n, want int) {
	b.t.Helper()
	if got := b.come(pub, n); got != want {
		b.t.Fatalf("Come(%d, %d) = %d, not %d", pub, n, got, want)
	}
}

// refused asks for ErrArg beside 0.
func (b *both) refused(pub, n int) {
	b.t.Helper()
	if got, err := b.w.Come(pub, n); got != 0 || !errors.Is(err, api.ErrArg) || api.Of(err) != api.ErrArg {
		b.t.Errorf("Come(%d, %d) = %d, %v; not ErrArg", pub, n, got, err)
	}
}

// P14.1: the numbers that stand for what an event is.
func TestNames(t *testing.T) {
	if window.Width != 64 || window.New != 1 || window.Twice != 2 || window.Stale != 3 {
		t.Error(window.Width, window.New, window.Twice, window.Stale)
	}
}

// P14.1: the chapter's example.
func TestExample(t *testing.T) {
	b := start(t)
	b.expectCome(1, 5, window.New)
	b.expectCome(1, 3, window.New)
	b.expectCome(1, 5, window.Twice)
	b.expectCome(1, 70, window.New)
	b.expectCome(1, 6, window.Stale)
	b.expectCome(1, 7, window.New)
}

// P14.1: the zero Window knows of nothing.
func TestZeroWindow(t *testing.T) {
	var w window.Window
	for _, pub := range []int{0, 1, 31, -1, 32, math.MinInt, math.MaxInt} {
		if n := w.Last(pub); n != 0 {
			t.Errorf("Last(%d) = %d", pub, n)
		}
	}
	for pub := range api.MaxNodes {
		for _, n := range []int{1, 2, 63, 64, 65, greatest - 1, greatest} {
			b := start(t)
			b.expectCome(pub, n, window.New)
			b.expectCome(pub, n, window.Twice)
			for other := range api.MaxNodes {
				b.expectLast(other)
			}
		}
	}
}

// P14.1: publishers go from 0 to 31, numbers from 1 to 2^30; beside an error nothing changes.
func TestWrongArguments(t *testing.T) {
	wrongPubs := []int{-1, 32, -2, 33, 64, 1 << 32, 1<<32 + 1, math.MinInt, math.MaxInt}
	wrongNumbers := []int{0, -1, greatest + 1, greatest + 2, -63, -64, -greatest, 1 << 32, 1<<32 + 5, math.MinInt, math.MaxInt}
	b := start(t)
	for range 2 {
		for _, pub := range wrongPubs {
			for _, n := range append([]int{1, 5, 70, greatest}, wrongNumbers...) {
				b.refused(pub, n)
			}
			b.expectLast(pub)
		}
		for _, n := range wrongNumbers {
			for _, pub := range []int{0, 1, 31} {
				b.refused(pub, n)
				b.expectLast(pub)
			}
		}
		// Behind the first round these are New, behind the second one they came.
		for _, pub := range []int{0, 1, 31} {
			for n := 1; n < 70; n += 3 {
				b.come(pub, n)
			}
		}
	}
}

// P14.1: from 1 to 2^30, and what lies just below each of them.
func TestEdgesOfNumbers(t *testing.T) {
	for _, pub := range []int{0, 31} {
		b := start(t)
		b.expectCome(pub, 1, window.New)
		b.expectCome(pub, 1, window.Twice)
		b.expectCome(pub, 64, window.New)
		b.expectCome(pub, 1, window.Twice)
		b.expectCome(pub, 65, window.New)
		b.expectCome(pub, 1, window.Stale)
		b.expectCome(pub, 2, window.New)
		b.expectCome(pub, greatest, window.New)
		b.expectCome(pub, greatest, window.Twice)
		b.expectCome(pub, greatest-63, window.New)
		b.expectCome(pub, greatest-63, window.Twice)
		b.expectCome(pub, greatest-64, window.Stale)
		b.expectCome(pub, 1, window.Stale)
		b.refused(pub, greatest+1)
		b.expectLast(pub)
		for n := greatest - 62; n < greatest; n++ {
			b.expectCome(pub, n, window.New)
			b.expectCome(pub, n, window.Twice)
		}
	}
}

// P14.1: of the greatest number and the 63 ahead of it is known which came, however much that number rises; what nobody named didn't come.
func TestRises(t *testing.T) {
	for _, first := range []int{1, 2, 63, 64, 65, 200, 1 << 20} {
		for _, rise := range []int{1, 2, 31, 32, 33, 62, 63, 64, 65, 66, 127, 128, 129, 256, 1000, 1 << 16, greatest - 1<<20} {
			for every := 1; every <= 3; every++ {
				b := start(t)
				b.expectCome(4, first, window.New)
				for n := max(1, first-63); n < first; n += every {
					b.expectCome(4, n, window.New)
				}
				b.expectCome(4, first+rise, window.New)
				for n := max(1, first-70); n <= first; n++ {
					b.come(4, n)
				}
				for n := first + rise - 1; n > max(first, first+rise-64); n-- {
					b.expectCome(4, n, window.New)
					b.expectCome(4, n, window.Twice)
				}
				b.expectCome(4, first+rise, window.Twice)
			}
		}
	}
}

// P14.1: a number that comes late doesn't bring the greatest one back.
func TestLate(t *testing.T) {
	b := start(t)
	b.expectCome(0, 100, window.New)
	for n := 99; n > 36; n-- {
		b.expectCome(0, n, window.New)
	}
	for n := 36; n > 0; n-- {
		b.expectCome(0, n, window.Stale)
	}
	for n := 37; n <= 100; n++ {
		b.expectCome(0, n, window.Twice)
	}
	if n := b.w.Last(0); n != 100 {
		t.Errorf("Last = %d", n)
	}
}

// P14.1: what came of one publisher says nothing of another one.
func TestPublishersByTurns(t *testing.T) {
	b := start(t)
	for n := 1; n < 200; n++ {
		for pub := range api.MaxNodes {
			// Each goes at a pace of its own.
			b.expectCome(pub, n*(pub+1), window.New)
		}
		for pub := range api.MaxNodes {
			b.expectCome(pub, n*(pub+1), window.Twice)
		}
	}
	for pub := range api.MaxNodes {
		for back := range 70 {
			b.come(pub, b.last[pub]-back)
		}
	}
}

// P14.1: each run of up to six numbers that lie at and beside what matters.
func TestShortRuns(t *testing.T) {
	numbers := []int{1, 2, 64, 65, 66, 129}
	var run func(row []int)
	run = func(row []int) {
		b := start(t)
		for _, n := range row {
			b.come(3, n)
		}
		if len(row) == 6 {
			return
		}
		for _, n := range numbers {
			run(append(row[:len(row):len(row)], n))
		}
	}
	run(nil)
}

// P14.1, P14.2: long runs of calls; each event is New once at most, and just if it wasn't too old.
func TestLongRuns(t *testing.T) {
	counts := map[string]int{}
	for seed := range 200 {
		dice := rand.New(rand.NewSource(int64(seed)))
		b := start(t)
		pubs := 1 + dice.Intn(api.MaxNodes)
		for range 1000 {
			pub := dice.Intn(pubs)
			n := b.last[pub] + dice.Intn(140) - 100
			switch dice.Intn(40) {
			case 0:
				n = b.last[pub] + []int{1, 63, 64, 65, 1000}[dice.Intn(5)]
			case 1:
				n = b.last[pub] - []int{0, 1, 62, 63, 64, 65}[dice.Intn(6)]
			case 2:
				n = 1 + dice.Intn(b.last[pub]+1)
			}
			if n < 1 || n > greatest {
				b.refused(pub, n)
				b.expectLast(pub)
				continue
			}
			counts[fmt.Sprint(b.come(pub, n))]++
		}
		for pub := range api.MaxNodes {
			b.expectLast(pub)
		}
	}
	if counts["1"] < 1000 || counts["2"] < 1000 || counts["3"] < 1000 {
		t.Errorf("%v", counts)
	}
}

// K4: two windows know nothing of each other, and answer alike behind the same calls.
func TestWindowsAreApart(t *testing.T) {
	dice := rand.New(rand.NewSource(14))
	a, b, other := start(t), start(t), start(t)
	for range 5000 {
		pub, n := dice.Intn(3), 1+dice.Intn(200)
		want := a.come(pub, n)
		other.come(dice.Intn(3), 1+dice.Intn(200))
		b.expectCome(pub, n, want)
		if dice.Intn(200) == 0 {
			a, b = start(t), start(t)
		}
	}
}
