package dyad_test

import (
	"fmt"
	"math"
	"math/big"
	"math/rand"
	"slices"
	"strings"
	"testing"

	"wigwag/api"
	"wigwag/dyad"
	"wigwag/value"
)

func at(level, index int) dyad.Interval { return dyad.Interval{Level: level, Index: index} }

func number(low, high int) value.Attr {
	return value.Attr{Name: "n", Kind: value.Int, Min: low, Max: high}
}

func num(n int) value.Value { return value.Value{Num: n} }

func str(s string) value.Value { return value.Value{Str: s} }

var (
	text = value.Attr{Name: "t", Kind: value.Text}
	// odd are numbers beside which there are no levels, intervals or cells.
	odd = []int{math.MinInt, math.MinInt + 1, -1 << 40, -257, -256, -65, -64, -63, -2, -1, 9, 10, 16, 31, 32, 62, 63, 64, 65, 255, 256, 257, 1 << 40, math.MaxInt - 1, math.MaxInt}
)

// part is an interval with the cells that it should have.
type part struct {
	x           dyad.Interval
	first, last int
}

// parts: all the intervals of so many levels, level by level, from left to right, by halving.
func parts(levels int) []part {
	all := []part{{at(0, 0), 0, int(math.Pow(2, float64(levels))) - 1}}
	for i := 0; i < len(all) && all[i].first < all[i].last; i++ {
		p := all[i]
		half := (p.first + p.last) / 2
		all = append(all, part{at(p.x.Level+1, 2*p.x.Index), p.first, half}, part{at(p.x.Level+1, 2*p.x.Index+1), half + 1, p.last})
	}
	return all
}

// P7.1: the examples, and the edges of levels.
func TestExamples(t *testing.T) {
	if l := dyad.Cover(1, 6, 3); !slices.Equal(l, []dyad.Interval{at(3, 1), at(2, 1), at(2, 2), at(3, 6)}) {
		t.Errorf("Cover(1, 6, 3) = %v", l)
	}
	if l := dyad.Chain(5, 3); !slices.Equal(l, []dyad.Interval{at(0, 0), at(1, 1), at(2, 2), at(3, 5)}) {
		t.Errorf("Chain(5, 3) = %v", l)
	}
	if l := dyad.Cover(0, 0, 0); !slices.Equal(l, []dyad.Interval{at(0, 0)}) {
		t.Errorf("Cover(0, 0, 0) = %v", l)
	}
	if l := dyad.Chain(0, 0); !slices.Equal(l, []dyad.Interval{at(0, 0)}) {
		t.Errorf("Chain(0, 0) = %v", l)
	}
	if l := dyad.Cover(255, 255, 8); !slices.Equal(l, []dyad.Interval{at(8, 255)}) {
		t.Errorf("Cover(255, 255, 8) = %v", l)
	}
	if l := dyad.Cover(0, 255, 8); !slices.Equal(l, []dyad.Interval{at(0, 0)}) {
		t.Errorf("Cover(0, 255, 8) = %v", l)
	}
	if l := dyad.Cover(128, 255, 8); !slices.Equal(l, []dyad.Interval{at(1, 1)}) {
		t.Errorf("Cover(128, 255, 8) = %v", l)
	}
	if l := dyad.Cover(0, 254, 8); !slices.Equal(l, []dyad.Interval{at(1, 0), at(2, 2), at(3, 6), at(4, 14), at(5, 30), at(6, 62), at(7, 126), at(8, 254)}) {
		t.Errorf("Cover(0, 254, 8) = %v", l)
	}
}

// P7.1
func TestGoodAndCells(t *testing.T) {
	for levels := range api.MaxLevels + 1 {
		want := map[dyad.Interval]part{}
		for _, p := range parts(levels) {
			want[p.x] = p
		}
		for level := -2; level <= levels+3; level++ {
			for index := -2; index <= 1<<(levels+3); index++ {
				x := at(level, index)
				p, good := want[x]
				if !good {
					p.first, p.last = 0, -1
				}
				first, last := dyad.Cells(x, levels)
				if dyad.Good(x, levels) != good || first != p.first || last != p.last {
					t.Errorf("%v of %d levels: %v, %d to %d; not %v, %d to %d", x, levels, !good, first, last, good, p.first, p.last)
				}
			}
		}
		for _, n := range odd {
			if n < 0 || n > levels {
				expectNoInterval(t, at(n, 0), levels)
				expectNoInterval(t, at(n, n), levels)
			}
			if n < 0 || n >= 1<<levels {
				expectNoInterval(t, at(levels, n), levels)
			}
		}
	}
	for _, levels := range odd {
		for _, x := range []dyad.Interval{at(0, 0), at(1, 0), at(1, 1), at(8, 0), at(8, 255), at(9, 0), at(levels, 0), at(levels, levels), at(0, levels), at(-1, 0), at(0, -1)} {
			expectNoInterval(t, x, levels)
		}
	}
}

func expectNoInterval(t *testing.T, x dyad.Interval, levels int) {
	t.Helper()
	if first, last := dyad.Cells(x, levels); dyad.Good(x, levels) || first != 0 || last != -1 {
		t.Errorf("%v of %d levels: %v, %d to %d", x, levels, dyad.Good(x, levels), first, last)
	}
}

// P7.1
func TestChain(t *testing.T) {
	for levels := range api.MaxLevels + 1 {
		all := parts(levels)
		for cell := -3; cell < 1<<levels+3; cell++ {
			var want []dyad.Interval
			for _, p := range all {
				if p.first <= cell && cell <= p.last {
					want = append(want, p.x)
				}
			}
			if got := dyad.Chain(cell, levels); !slices.Equal(got, want) {
				t.Errorf("Chain(%d, %d) = %v, not %v", cell, levels, got, want)
			}
			if inside := cell >= 0 && cell < 1<<levels; inside && len(want) != levels+1 || !inside && want != nil {
				t.Errorf("a cell %d of %d levels lies in %v", cell, levels, want)
			}
		}
		for _, n := range odd {
			if n < 0 || n >= 1<<levels {
				expectNone(t, fmt.Sprintf("Chain(%d, %d)", n, levels), dyad.Chain(n, levels))
			}
		}
	}
	for _, levels := range odd {
		for _, cell := range []int{-1, 0, 1, 255, 256, levels, levels - 1} {
			expectNone(t, fmt.Sprintf("Chain(%d, %d)", cell, levels), dyad.Chain(cell, levels))
		}
	}
}

func expectNone(t *testing.T, what string, l []dyad.Interval) {
	t.Helper()
	if len(l) != 0 {
		t.Errorf("%s = %v", what, l)
	}
}

// coverByWords: each the greatest one that begins where it should and doesn't go beyond hi.
func coverByWords(all []part, lo, hi int) []dyad.Interval {
	var l []dyad.Interval
	for lo <= hi {
		i := slices.IndexFunc(all, func(p part) bool { return p.first == lo && p.last <= hi })
		l = append(l, all[i].x)
		lo = all[i].last + 1
	}
	return l
}

// P7.1, P7.2: all ranges of all levels.
func TestCover(t *testing.T) {
	for levels := range api.MaxLevels + 1 {
		all := parts(levels)
		cells := 1 << levels
		most := 0
		for lo := range cells {
			for hi := range cells {
				got := dyad.Cover(lo, hi, levels)
				if lo > hi {
					expectNone(t, fmt.Sprintf("Cover(%d, %d, %d)", lo, hi, levels), got)
				} else if want := coverByWords(all, lo, hi); !slices.Equal(got, want) {
					t.Fatalf("Cover(%d, %d, %d) = %v, not %v", lo, hi, levels, got, want)
				}
				most = max(most, len(got))
			}
		}
		if want := max(1, 2*levels-2); most != want {
			t.Errorf("%d levels: a cover of %d intervals, not of %d", levels, most, want)
		}
	}
}

// P7.2: each cell of the range once, in order, no other; just one of a cell's chain is among them.
func TestCoverIsTheRange(t *testing.T) {
	r := rand.New(rand.NewSource(72))
	for range 3000 {
		levels := r.Intn(api.MaxLevels + 1)
		lo := r.Intn(1 << levels)
		hi := lo + r.Intn(1<<levels-lo)
		cover := dyad.Cover(lo, hi, levels)
		next := lo
		for _, x := range cover {
			first, last := dyad.Cells(x, levels)
			if !dyad.Good(x, levels) || first != next || last < first {
				t.Fatalf("Cover(%d, %d, %d) = %v: %v", lo, hi, levels, cover, x)
			}
			next = last + 1
		}
		if next != hi+1 {
			t.Fatalf("Cover(%d, %d, %d) = %v ends ahead of %d", lo, hi, levels, cover, next)
		}
		for cell := range 1 << levels {
			met := 0
			for _, x := range dyad.Chain(cell, levels) {
				if slices.Contains(cover, x) {
					met++
				}
			}
			if inside := lo <= cell && cell <= hi; inside && met != 1 || !inside && met != 0 {
				t.Fatalf("Cover(%d, %d, %d) = %v: the chain of %d has %d of them", lo, hi, levels, cover, cell, met)
			}
		}
	}
}

// P7.1: what is no range.
func TestCoverOfNone(t *testing.T) {
	for levels := range api.MaxLevels + 1 {
		last := 1<<levels - 1
		for _, x := range [][2]int{{-1, 0}, {-1, last}, {0, last + 1}, {last, last + 1}, {last + 1, last + 1}, {-1, -1}, {-1, last + 1}, {0, -1}, {last + 1, last}, {last + 2, last + 1}, {-2, -1}} {
			expectNone(t, fmt.Sprintf("Cover(%d, %d, %d)", x[0], x[1], levels), dyad.Cover(x[0], x[1], levels))
		}
		for _, n := range odd {
			if n < 0 || n > last {
				for _, x := range [][2]int{{n, 0}, {0, n}, {n, n}, {last, n}, {n, last}} {
					expectNone(t, fmt.Sprintf("Cover(%d, %d, %d)", x[0], x[1], levels), dyad.Cover(x[0], x[1], levels))
				}
			}
		}
	}
	for _, levels := range odd {
		for _, x := range [][2]int{{0, 0}, {0, 1}, {0, 255}, {1, 6}, {255, 255}, {0, 256}, {levels, levels}} {
			expectNone(t, fmt.Sprintf("Cover(%d, %d, %d)", x[0], x[1], levels), dyad.Cover(x[0], x[1], levels))
		}
	}
}

// P7.3
func TestCellOfNumbers(t *testing.T) {
	low, high := -value.Most, value.Most
	for i, x := range []struct {
		a         value.Attr
		n, levels int
		want      int
	}{
		{number(0, 7), 5, 3, 5}, {number(0, 7), 0, 3, 0}, {number(0, 7), 7, 3, 7}, {number(0, 7), 8, 3, -1}, {number(0, 7), -1, 3, -1}, {number(0, 7), 7, 0, 0}, {number(0, 7), 7, 8, 224}, {number(0, 7), 3, 1, 0}, {number(0, 7), 4, 1, 1},
		{number(-10, 9), -10, 3, 0}, {number(-10, 9), -9, 3, 0}, {number(-10, 9), -8, 3, 0}, {number(-10, 9), -7, 3, 1}, {number(-10, 9), 0, 3, 4}, {number(-10, 9), -1, 3, 3}, {number(-10, 9), 9, 3, 7}, {number(-10, 9), -11, 3, -1}, {number(-10, 9), 10, 3, -1},
		{number(0, 99), 99, 8, 253}, {number(0, 99), 50, 8, 128}, {number(0, 99), 49, 8, 125}, {number(0, 999), 3, 8, 0}, {number(0, 999), 4, 8, 1},
		{number(5, 5), 5, 8, 0}, {number(5, 5), 5, 0, 0}, {number(5, 5), 4, 8, -1}, {number(5, 5), 6, 8, -1}, {number(5, 6), 6, 8, 128},
		{number(low, high), low, 8, 0}, {number(low, high), high, 8, 255}, {number(low, high), 0, 8, 127}, {number(low, high), 1, 8, 128}, {number(low, high), low - 1, 8, -1}, {number(low, high), high + 1, 8, -1}, {number(low, high), high, 0, 0},
		{number(low, low), low, 8, 0}, {number(high, high), high, 8, 0}, {number(low, 0), 0, 8, 255}, {number(0, high), high, 8, 255}, {number(0, high), 0, 8, 0},
		{number(low-1, 0), 0, 8, -1}, {number(low-1, high), low, 8, -1}, {number(0, high+1), 0, 8, -1}, {number(low, high+1), high, 8, -1}, {number(low-1, low-1), low - 1, 8, -1}, {number(high+1, high+1), high + 1, 8, -1}, {number(low-1, high+1), 0, 0, -1},
		{number(7, 0), 3, 3, -1}, {number(7, 0), 0, 3, -1}, {number(7, 0), 7, 3, -1}, {number(1, 0), 0, 3, -1}, {number(1, 0), 1, 3, -1}, {number(high, low), 0, 3, -1},
		{number(math.MinInt, math.MaxInt), 0, 8, -1}, {number(math.MinInt, math.MinInt), math.MinInt, 8, -1}, {number(math.MaxInt, math.MaxInt), math.MaxInt, 8, -1}, {number(math.MaxInt, math.MinInt), 0, 8, -1}, {number(0, math.MaxInt), 1, 1, -1}, {number(math.MinInt, 0), -1, 1, -1},
		{number(0, 7), math.MaxInt, 8, -1}, {number(0, 7), math.MinInt, 8, -1},
		{number(0, 7), 5, -1, -1}, {number(0, 7), 5, 9, -1}, {number(0, 7), 9, 9, -1},
	} {
		if got := dyad.Cell(x.a, num(x.n), x.levels); got != x.want {
			t.Errorf("%d: Cell of %d in %d to %d, %d levels = %d, not %d", i, x.n, x.a.Min, x.a.Max, x.levels, got, x.want)
		}
	}
	// Only the number counts.
	if got := dyad.Cell(number(0, 7), value.Value{Num: 5, Str: "\xff\xff"}, 3); got != 5 {
		t.Errorf("a number with a text has the cell %d", got)
	}
	for _, levels := range odd {
		if got := dyad.Cell(number(0, 7), num(5), levels); got != -1 {
			t.Errorf("Cell of a number, %d levels = %d", levels, got)
		}
		if got := dyad.Cell(text, str("a"), levels); got != -1 {
			t.Errorf("Cell of a text, %d levels = %d", levels, got)
		}
	}
}

// P7.3
func TestCellOfTexts(t *testing.T) {
	for i, x := range []struct {
		s      string
		levels int
		want   int
	}{
		{"", 8, 0}, {"", 0, 0}, {"a", 8, 'a'}, {"ab", 8, 'a'}, {"abc", 8, 'a'}, {"a~", 8, 'a'}, {"b", 8, 'b'}, {" ", 8, 32}, {"~", 8, 126}, {"\x00", 8, 0}, {"\xff", 8, 255}, {"\x00\xff", 8, 0}, {"\xff\xff\xff", 8, 255}, {"\xff\xff", 0, 0},
		{"a", 3, 3}, {"~", 3, 3}, {"_", 3, 2}, {" ", 3, 1}, {"\x1f\xff", 3, 0}, {"\x80", 1, 1}, {"\x7f\xff", 1, 0}, {"\xfe\xff", 7, 127}, {"\xfd\xff", 7, 126},
		{strings.Repeat("z", 5000), 8, 'z'},
	} {
		for _, kind := range []int{value.Text, 0, -1, 3, math.MaxInt, math.MinInt} {
			// Neither Min nor Max nor the number counts, nor whether the text is a value.
			for _, a := range []value.Attr{{Name: "t", Kind: kind}, {Kind: kind, Min: 5, Max: -5}, {Kind: kind, Min: math.MinInt, Max: math.MaxInt}} {
				if got := dyad.Cell(a, value.Value{Num: 77, Str: x.s}, x.levels); got != x.want {
					t.Errorf("%d: Cell of %q, %d levels, by %v = %d, not %d", i, x.s, x.levels, a, got, x.want)
				}
			}
		}
	}
	// All of two bytes, by all levels.
	for first := range 256 {
		for second := range 256 {
			for levels := range api.MaxLevels + 1 {
				s := string([]byte{byte(first), byte(second)})
				want := int(float64(first*256+second) / math.Pow(2, float64(16-levels)))
				if got := dyad.Cell(text, str(s), levels); got != want {
					t.Fatalf("Cell of %q, %d levels = %d, not %d", s, levels, got, want)
				}
			}
		}
	}
}

// cellByWords: that of a number, without a bound of what a number holds.
func cellByWords(a value.Attr, n, levels int) int {
	if n < a.Min || n > a.Max || min(a.Min, a.Max) < -1<<31 || max(a.Min, a.Max) > 1<<31 {
		return -1
	}
	up := new(big.Int).Sub(big.NewInt(int64(n)), big.NewInt(int64(a.Min)))
	up.Mul(up, new(big.Int).Exp(big.NewInt(2), big.NewInt(int64(levels)), nil))
	return int(up.Div(up, big.NewInt(int64(a.Max-a.Min+1))).Int64())
}

// someNumber: often one at a border.
func someNumber(r *rand.Rand) int {
	borders := []int{-value.Most, value.Most, -value.Most - 1, value.Most + 1, 0, 1, -1, 255, 256, 257, math.MinInt, math.MaxInt}
	switch r.Intn(4) {
	case 0:
		return borders[r.Intn(len(borders))]
	case 1:
		return borders[r.Intn(2)] + r.Intn(7) - 3
	case 2:
		return r.Intn(601) - 300
	}
	return r.Intn(2*value.Most+1) - value.Most
}

// P7.3: many numbers of many attributes.
func TestCellOfMany(t *testing.T) {
	r := rand.New(rand.NewSource(73))
	counts := map[bool]int{}
	for range 100000 {
		a, levels := number(someNumber(r), someNumber(r)), r.Intn(9)
		n := []int{a.Min, a.Max, a.Min - 1, a.Max + 1, someNumber(r), a.Min + r.Intn(300)}[r.Intn(6)]
		want := cellByWords(a, n, levels)
		if got := dyad.Cell(a, num(n), levels); got != want || got >= 1<<levels {
			t.Fatalf("Cell of %d in %d to %d, %d levels = %d, not %d", n, a.Min, a.Max, levels, got, want)
		}
		counts[want >= 0]++
	}
	if counts[true] < 1000 || counts[false] < 1000 {
		t.Errorf("counts: %v", counts)
	}
}

func someText(r *rand.Rand) string {
	b := make([]byte, r.Intn(5))
	for i := range b {
		b[i] = []byte{0, 1, 32, 'a', 'b', 126, 127, 128, 255, byte(r.Intn(256))}[r.Intn(10)]
	}
	return string(b)
}

// someAttr: a right one, and of its numbers two, rising.
func someAttr(r *rand.Rand) (value.Attr, int, int) {
	low := r.Intn(2*value.Most+1) - value.Most
	high := low + r.Intn(value.Most-low+1)
	if r.Intn(2) == 0 {
		high = min(value.Most, low+r.Intn(600))
	}
	n, m := low+r.Intn(high-low+1), low+r.Intn(high-low+1)
	return number(low, high), min(n, m), max(n, m)
}

// P7.3: a greater value has no lesser cell.
func TestCellsRise(t *testing.T) {
	r := rand.New(rand.NewSource(74))
	for range 50000 {
		levels := r.Intn(9)
		a, n, m := someAttr(r)
		if lesser, greater := dyad.Cell(a, num(n), levels), dyad.Cell(a, num(m), levels); lesser < 0 || greater < lesser || greater >= 1<<levels {
			t.Fatalf("of %v, %d levels: %d has the cell %d, %d has %d", a, levels, n, lesser, m, greater)
		}
		s, z := someText(r), someText(r)
		s, z = min(s, z), max(s, z)
		if lesser, greater := dyad.Cell(text, str(s), levels), dyad.Cell(text, str(z), levels); lesser < 0 || greater < lesser || greater >= 1<<levels {
			t.Fatalf("%d levels: %q has the cell %d, %q has %d", levels, s, lesser, z, greater)
		}
	}
}

// P7.3
func TestRange(t *testing.T) {
	small, apart := number(0, 7), number(3, 10)
	for i, x := range []struct {
		a      value.Attr
		p      value.Pred
		levels int
		lo, hi int
	}{
		{small, value.Pred{Op: value.In, Lo: 1, Hi: 6}, 3, 1, 6}, {small, value.Pred{Op: value.In, Hi: 7}, 3, 0, 7}, {small, value.Pred{Op: value.In, Lo: 4, Hi: 4}, 3, 4, 4}, {small, value.Pred{Op: value.In, Lo: 2, Hi: 5}, 0, 0, 0}, {small, value.Pred{Op: value.In, Lo: 2, Hi: 5}, 8, 64, 160},
		{small, value.Pred{Op: value.In, Lo: 6, Hi: 1}, 3, 6, 1}, {small, value.Pred{Op: value.In, Lo: -1, Hi: 6}, 3, -1, 6}, {small, value.Pred{Op: value.In, Lo: 1, Hi: 8}, 3, 1, -1}, {small, value.Pred{Op: value.In, Lo: -1, Hi: 8}, 3, -1, -1}, {small, value.Pred{Op: value.In, Lo: 1, Hi: 6, Str: "a"}, 3, 1, 6},
		{small, value.Pred{Op: value.In, Lo: 1, Hi: 6}, 9, -1, -1}, {small, value.Pred{Op: value.In, Lo: 1, Hi: 6}, -1, -1, -1}, {number(7, 0), value.Pred{Op: value.In, Lo: 1, Hi: 6}, 3, -1, -1},
		{text, value.Pred{Op: value.Eq, Str: "a"}, 8, 'a', 'a'}, {text, value.Pred{Op: value.Eq, Str: ""}, 8, 0, 0}, {text, value.Pred{Op: value.Eq, Str: "a\xff"}, 8, 'a', 'a'}, {text, value.Pred{Op: value.Eq, Str: "abc", Lo: 9, Hi: 9}, 8, 'a', 'a'}, {text, value.Pred{Op: value.Eq, Str: "a"}, 9, -1, -1}, {text, value.Pred{Op: value.Eq, Str: "a"}, -1, -1, -1},
		{text, value.Pred{Op: value.Prefix, Str: "a"}, 8, 'a', 'a'}, {text, value.Pred{Op: value.Prefix, Str: "ab"}, 8, 'a', 'a'}, {text, value.Pred{Op: value.Prefix, Str: "abc"}, 3, 3, 3}, {text, value.Pred{Op: value.Prefix, Str: ""}, 8, 0, 255}, {text, value.Pred{Op: value.Prefix, Str: ""}, 3, 0, 7}, {text, value.Pred{Op: value.Prefix, Str: ""}, 0, 0, 0}, {text, value.Pred{Op: value.Prefix, Str: "a"}, 9, -1, -1}, {text, value.Pred{Op: value.Prefix, Str: "a"}, -1, -1, -1},
		{text, value.Pred{Op: value.Prefix, Str: "\x00"}, 8, 0, 0}, {text, value.Pred{Op: value.Prefix, Str: "\xff"}, 8, 255, 255},
		// Another Op is asked as Prefix is, and another kind as Text is.
		{text, value.Pred{Op: 0, Str: ""}, 8, 0, 255}, {text, value.Pred{Op: 4, Str: ""}, 8, 0, 255}, {text, value.Pred{Op: -1, Str: "b"}, 8, 'b', 'b'}, {value.Attr{}, value.Pred{Op: 0, Str: ""}, 8, 0, 255}, {value.Attr{Kind: 3}, value.Pred{Op: value.Prefix, Str: "b"}, 8, 'b', 'b'},
		// A number has no text, a text no number.
		{text, value.Pred{Op: value.In, Lo: 1, Hi: 6, Str: "a"}, 8, 0, 0}, {small, value.Pred{Op: value.Eq, Str: "a", Lo: 5, Hi: 5}, 3, 0, 0}, {small, value.Pred{Op: value.Prefix, Str: "a", Lo: 5, Hi: 5}, 3, 0, 0}, {apart, value.Pred{Op: value.Eq, Str: "a", Lo: 5, Hi: 5}, 3, -1, -1}, {apart, value.Pred{Op: value.Prefix, Str: "a"}, 3, -1, -1},
	} {
		if lo, hi := dyad.Range(x.a, x.p, x.levels); lo != x.lo || hi != x.hi {
			t.Errorf("%d: Range(%v, %v, %d) = %d, %d; not %d, %d", i, x.a, x.p, x.levels, lo, hi, x.lo, x.hi)
		}
	}
}

// P7.3: a value that a predicate takes has a cell within its range.
func TestWhatIsTakenLiesInTheRange(t *testing.T) {
	r := rand.New(rand.NewSource(75))
	taken := map[int]int{}
	for range 50000 {
		levels := r.Intn(9)
		a, lo, hi := someAttr(r)
		p, v := value.Pred{Name: a.Name, Op: value.In, Lo: lo, Hi: hi}, num(lo+r.Intn(hi-lo+1))
		if r.Intn(2) == 0 {
			a, v = text, str(strings.Map(func(c rune) rune { return max(32, c&127-1) }, someText(r)))
			p = value.Pred{Name: "t", Op: value.Eq, Str: v.Str}
			if v.Str != "" && r.Intn(3) > 0 {
				p = value.Pred{Name: "t", Op: value.Prefix, Str: v.Str[:1+r.Intn(len(v.Str))]}
			}
		}
		if !(value.Schema{a}).Match(value.Filter{p}, value.Event{Values: []value.Value{v}}) {
			t.Fatalf("%v doesn't take %v", p, v)
		}
		taken[p.Op]++
		first, last := dyad.Range(a, p, levels)
		if cell := dyad.Cell(a, v, levels); first < 0 || cell < first || cell > last || last >= 1<<levels {
			t.Fatalf("Range(%v, %v, %d) = %d, %d; %v has the cell %d", a, p, levels, first, last, v, cell)
		}
	}
	if taken[value.In] < 1000 || taken[value.Eq] < 1000 || taken[value.Prefix] < 1000 {
		t.Errorf("taken: %v", taken)
	}
}

// K3: lists are the caller's alone.
func TestNothingIsShared(t *testing.T) {
	for range 2 {
		chain, cover := dyad.Chain(5, 3), dyad.Cover(1, 6, 3)
		if fmt.Sprint(chain, cover) != "[{0 0} {1 1} {2 2} {3 5}] [{3 1} {2 1} {2 2} {3 6}]" {
			t.Fatalf("behind changed answers: %v, %v", chain, cover)
		}
		for i := range 4 {
			chain[i], cover[i] = at(7, 7), at(9, 9)
		}
		_, _ = append(chain, at(6, 6)), append(cover, at(6, 6))
	}
}
