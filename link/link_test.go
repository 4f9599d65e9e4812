package link_test

import (
	"errors"
	"fmt"
	"math"
	"math/rand"
	"slices"
	"strings"
	"testing"

	"wigwag/api"
	"wigwag/bag"
	"wigwag/code"
	"wigwag/link"
)

// spelled: a packet's bytes by the chapter's rule.
func spelled(n, came int, s string) string {
	var w code.Writer
	w.Int(n)
	w.Int(came)
	w.Text(s)
	return w.Bytes()
}

// kept: a link in memory of its own.
func kept(l link.Link) link.Link {
	l.Queue = slices.Clone(l.Queue)
	return l
}

func same(a, b link.Link) bool {
	return slices.Equal(a.Queue, b.Queue) && a.Acked == b.Acked && a.Came == b.Came && a.Owes == b.Owes
}

func expectLink(t *testing.T, what string, got *link.Link, want link.Link) {
	t.Helper()
	if !same(*got, want) {
		t.Errorf("%s: %.200q, not %.200q", what, fmt.Sprint(*got), fmt.Sprint(want))
	}
	if got.Idle() != (len(want.Queue) == 0 && !want.Owes) {
		t.Errorf("%s: Idle = %v", what, got.Idle())
	}
}

func expectPackets(t *testing.T, what string, l *link.Link, want ...string) {
	t.Helper()
	after := kept(*l)
	after.Owes = false
	if got := l.Packets(); !slices.Equal(got, want) {
		t.Errorf("%s: Packets = %.200q, not %.200q", what, got, want)
	}
	expectLink(t, what+", behind Packets", l, after)
}

// expectTaken asks what Take answers where there is no error.
func expectTaken(t *testing.T, what string, l *link.Link, p, want string, ok bool) {
	t.Helper()
	if s, got, err := l.Take(p); s != want || got != ok || err != nil {
		t.Errorf("%s: Take(%.40x) = %.40q, %v, %v; not %.40q, %v", what, p, s, got, err, want, ok)
	}
}

// expectRefused asks for an error beside zero values, and for a link that is as it was.
func expectRefused(t *testing.T, what string, l *link.Link, p string, want api.Code) {
	t.Helper()
	before := kept(*l)
	if s, ok, err := l.Take(p); s != "" || ok || !errors.Is(err, want) || api.Of(err) != want {
		t.Errorf("%s: Take(%.40x) = %.40q, %v, %v; not %v", what, p, s, ok, err, want)
	}
	expectLink(t, what, l, before)
}

// pushed: a link on which so many texts wait, the first of them of this number.
func pushed(t *testing.T, first, n int) *link.Link {
	t.Helper()
	var l link.Link
	for i := range n {
		push(t, &l, name(first+i))
	}
	return &l
}

func push(t *testing.T, l *link.Link, s string) {
	t.Helper()
	if err := l.Push(s); err != nil {
		t.Errorf("Push(%.40q): %v", s, err)
	}
}

func name(i int) string { return fmt.Sprint("text ", i) }

// used: a link with texts that wait, some that were taken in, some that came, and something owed.
func used(t *testing.T) *link.Link {
	t.Helper()
	l := pushed(t, 0, 5)
	expectTaken(t, "used", l, spelled(0, 2, "x"), "x", true)
	expectTaken(t, "used", l, spelled(1, 0, "y"), "y", true)
	expectLink(t, "used", l, link.Link{Queue: []string{name(2), name(3), name(4)}, Acked: 2, Came: 2, Owes: true})
	return l
}

// P4.1: the chapter's example.
func TestExample(t *testing.T) {
	var a, b link.Link
	push(t, &a, "a")
	push(t, &a, "b")
	first, second := "\x00\x00\x01a", "\x02\x00\x01b"
	expectPackets(t, "two wait", &a, first, second)
	expectTaken(t, "the second", &b, second, "", false)
	expectTaken(t, "the first", &b, first, "a", true)
	expectTaken(t, "the second, again", &b, second, "b", true)
	expectPackets(t, "two came", &b, "\x01\x04\x00")
	expectTaken(t, "what came", &a, "\x01\x04\x00", "", false)
	expectLink(t, "at the end", &a, link.Link{Acked: 2})
	expectLink(t, "at the end", &b, link.Link{Came: 2})
}

// P4.1
func TestZeroLink(t *testing.T) {
	var l link.Link
	expectLink(t, "the zero Link", &l, link.Link{})
	expectPackets(t, "the zero Link", &l)
	expectTaken(t, "nothing", &l, spelled(-1, 0, ""), "", false)
	expectLink(t, "behind nothing", &l, link.Link{})
	expectTaken(t, "the first text", &l, spelled(0, 0, ""), "", true)
	expectLink(t, "behind a text", &l, link.Link{Came: 1, Owes: true})
}

// P4.1: Push of texts exactly as long as they may be, and one byte longer.
func TestPushLong(t *testing.T) {
	l := used(t)
	before := kept(*l)
	longest := strings.Repeat("\xff", api.MaxText-30)
	for _, s := range []string{longest + "x", strings.Repeat("x", api.MaxText), strings.Repeat(longest, 9)} {
		if err := l.Push(s); !errors.Is(err, api.ErrArg) {
			t.Errorf("Push of %d bytes: %v", len(s), err)
		}
		expectLink(t, "behind a text that is too long", l, before)
	}
	push(t, l, longest)
	push(t, l, "")
	before.Queue = append(before.Queue, longest, "")
	expectLink(t, "behind the longest text", l, before)
}

// P4.1: Most texts may wait, and not one more.
func TestPushMany(t *testing.T) {
	l := pushed(t, 0, link.Most)
	before := kept(*l)
	if len(before.Queue) != 64 || link.Window != 8 {
		t.Fatalf("%d wait, %d are sent", len(before.Queue), link.Window)
	}
	if err := l.Push(""); !errors.Is(err, api.ErrFull) {
		t.Errorf("one text more: %v", err)
	}
	if err := l.Push(strings.Repeat("x", api.MaxText)); !errors.Is(err, api.ErrArg) {
		t.Errorf("one text more, too long: %v", err)
	}
	expectLink(t, "behind refused texts", l, before)
	expectTaken(t, "one came over", l, spelled(-1, 1, ""), "", false)
	push(t, l, name(64))
	if err := l.Push("x"); !errors.Is(err, api.ErrFull) {
		t.Errorf("one text more: %v", err)
	}
	if len(l.Queue) != link.Most || l.Queue[0] != name(1) || l.Queue[63] != name(64) || l.Acked != 1 {
		t.Errorf("%d wait, %q the first, Acked %d", len(l.Queue), l.Queue[0], l.Acked)
	}
}

// P4.1: Packets of fewer texts than the window holds, of just as many, and of more.
func TestPacketsOfTheWindow(t *testing.T) {
	for n := range 20 {
		l := pushed(t, 0, n)
		var want []string
		for i := range min(n, link.Window) {
			want = append(want, spelled(i, 0, name(i)))
		}
		expectPackets(t, "first", l, want...)
		expectPackets(t, "again", l, want...)
	}
	l := pushed(t, 0, 20)
	expectTaken(t, "seven came over", l, spelled(0, 7, "x"), "x", true)
	var want []string
	for i := 7; i < 15; i++ {
		want = append(want, spelled(i, 1, name(i)))
	}
	expectPackets(t, "from the seventh on", l, want...)
	expectPackets(t, "again", l, want...)
}

// P4.1: what is owed is told once, by the packet of -1, or by those of texts that wait.
func TestPacketsOwed(t *testing.T) {
	var l link.Link
	expectTaken(t, "a text", &l, spelled(0, 0, "x"), "x", true)
	expectPackets(t, "one came", &l, spelled(-1, 1, ""))
	expectPackets(t, "nothing more is owed", &l)
	expectTaken(t, "the text, again", &l, spelled(0, 0, "x"), "", false)
	expectPackets(t, "it came twice", &l, spelled(-1, 1, ""))
	expectTaken(t, "a text that isn't the next", &l, spelled(5, 0, "y"), "", false)
	expectPackets(t, "it came too early", &l, spelled(-1, 1, ""))

	push(t, &l, "z")
	expectTaken(t, "a text", &l, spelled(1, 0, "x"), "x", true)
	expectPackets(t, "the text that waits tells it", &l, spelled(0, 2, "z"))
	expectTaken(t, "z came over", &l, spelled(-1, 1, ""), "", false)
	expectPackets(t, "it was told", &l)
}

// P4.1: came below Acked, equal to it, up to all that wait, and above all that was pushed.
func TestTakeCame(t *testing.T) {
	for _, c := range []struct{ came, acked int }{
		{0, 2}, {1, 2}, {2, 2}, {3, 3}, {4, 4}, {5, 5}, {6, 2}, {7, 2}, {1 << 40, 2}, {math.MaxInt, 2},
	} {
		want := link.Link{Queue: []string{name(2), name(3), name(4)}[c.acked-2:], Acked: c.acked, Came: 2, Owes: true}
		l := used(t)
		expectTaken(t, "without a text", l, spelled(-1, c.came, ""), "", false)
		expectLink(t, fmt.Sprint("without a text, came ", c.came), l, want)

		l = used(t)
		expectTaken(t, "with an old text", l, spelled(1, c.came, "y"), "", false)
		expectLink(t, fmt.Sprint("with an old text, came ", c.came), l, want)

		l = used(t)
		expectTaken(t, "with the next text", l, spelled(2, c.came, "z"), "z", true)
		want.Came = 3
		expectLink(t, fmt.Sprint("with the next text, came ", c.came), l, want)
	}
}

// P4.1: a packet of -1 is nothing that is owed for.
func TestTakeOwes(t *testing.T) {
	for _, c := range []struct {
		n    int
		owes bool
	}{{-1, false}, {0, true}, {1, true}, {2, true}, {3, true}, {math.MaxInt, true}} {
		l := used(t)
		l.Packets()
		s := ""
		if c.n >= 0 {
			s = "z"
		}
		if got, ok, err := l.Take(spelled(c.n, 0, s)); ok != (c.n == 2) || (got == "z") != ok || err != nil {
			t.Errorf("Take of %d: %q, %v, %v", c.n, got, ok, err)
		}
		if l.Owes != c.owes {
			t.Errorf("behind the packet of %d: Owes = %v", c.n, l.Owes)
		}
	}
}

// P4.1: packets that aren't in form.
func TestTakeWrong(t *testing.T) {
	longest := strings.Repeat("x", api.MaxText)
	for _, c := range []struct {
		what, p string
		want    api.Code
	}{
		{"no bytes", "", api.ErrEnd},
		{"a number alone", "\x00", api.ErrEnd},
		{"no text", "\x00\x00", api.ErrEnd},
		{"a number below -1", spelled(-2, 0, ""), api.ErrForm},
		{"the least number", spelled(math.MinInt, 0, "x"), api.ErrForm},
		{"came below 0", spelled(0, -1, "x"), api.ErrForm},
		{"the least came", spelled(-1, math.MinInt, ""), api.ErrForm},
		{"-1 with a text", spelled(-1, 0, "x"), api.ErrForm},
		{"-1 with a text, and a came that would count", spelled(-1, 3, "x"), api.ErrForm},
		{"a byte behind the end", spelled(2, 3, "z") + "\x00", api.ErrForm},
		{"a byte behind the end of -1", spelled(-1, 3, "") + "\x00", api.ErrForm},
		{"two packets", spelled(2, 3, "z") + spelled(3, 3, "z"), api.ErrForm},
		{"a number with a last byte of 0", "\x84\x00\x00\x01z", api.ErrForm},
		{"a came with a last byte of 0", "\x04\x86\x00\x01z", api.ErrForm},
		{"a length with a last byte of 0", "\x04\x06\x81\x00z", api.ErrForm},
		{"a number of too many bits", strings.Repeat("\xff", 9) + "\x02\x00\x00", api.ErrForm},
		{"a text of one byte too many", spelled(2, 3, longest+"x"), api.ErrArg},
		{"too long a text, and bytes behind it", spelled(2, 3, longest+"x") + "y", api.ErrArg},
		{"too long a text of a wrong number", spelled(-2, 3, longest+"x"), api.ErrArg},
		{"too long a text that is cut off", spelled(2, 3, longest+"x")[:9], api.ErrArg},
		{"a wrong number that is cut off", spelled(-2, -1, "x")[:3], api.ErrEnd},
	} {
		expectRefused(t, c.what, used(t), c.p, c.want)
		expectRefused(t, c.what+", zero Link", &link.Link{}, c.p, c.want)
	}
	l := used(t)
	expectTaken(t, "the longest text that is read", l, spelled(2, 3, longest), longest, true)
}

// P4.1: packets cut off at each place, and with bytes behind their end.
func TestTakeCutOff(t *testing.T) {
	for _, p := range []string{
		spelled(2, 3, "z"), spelled(-1, 3, ""), spelled(2, 300, strings.Repeat("y", 300)), spelled(1<<39, 1<<39, "abc"),
	} {
		l := used(t)
		for cut := range len(p) {
			expectRefused(t, "cut off", l, p[:cut], api.ErrEnd)
		}
		for _, more := range []string{"\x00", "\x80", "x", p} {
			expectRefused(t, "bytes behind it", l, p+more, api.ErrForm)
		}
		if _, _, err := l.Take(p); err != nil {
			t.Errorf("whole: %v", err)
		}
	}
}

// P4.1: what Take of any bytes does is what the chapter says of their reading.
func TestTakeAnyBytes(t *testing.T) {
	telling := "\x00\x01\x02\x03\x04\x06\x08\x7f\x80\x81\xff"
	row := []string{""}
	for range 4 {
		var longer []string
		for _, s := range row {
			for i := range len(telling) {
				longer = append(longer, s+telling[i:i+1])
			}
		}
		for _, s := range longer {
			takeBeside(t, s)
		}
		row = longer
	}
}

func takeBeside(t *testing.T, p string) {
	t.Helper()
	l := link.Link{Queue: []string{"a", "b"}, Acked: 1, Came: 1}
	r := code.Open(p)
	n, came, s := r.Int(), r.Int(), r.Text(api.MaxText)
	err := r.Done()
	if err != nil {
		expectRefused(t, "any bytes", &l, p, api.Of(err))
		return
	}
	if n < -1 || came < 0 || n == -1 && s != "" {
		expectRefused(t, "any bytes", &l, p, api.ErrForm)
		return
	}
	want := kept(l)
	if came == 2 || came == 3 {
		want.Queue, want.Acked = want.Queue[came-1:], came
	}
	want.Owes = n != -1
	if n != 1 {
		s = ""
	} else {
		want.Came = 2
	}
	expectTaken(t, "any bytes", &l, p, s, n == 1)
	expectLink(t, "any bytes", &l, want)
}

// P4.1: the longest text's packet is a text of the bag, as far as numbers go.
func TestPacketsFitTheBag(t *testing.T) {
	l := link.Link{Acked: 1<<40 - 1, Came: 1<<40 - 1}
	push(t, &l, strings.Repeat("x", api.MaxText-30))
	var b bag.Bag
	for _, p := range l.Packets() {
		if _, err := b.Send(0, 1, p); err != nil {
			t.Errorf("a packet of %d bytes: %v", len(p), err)
		}
	}
	if b.Len() != 1 {
		t.Errorf("%d packets", b.Len())
	}
}

// K3: a link that was copied goes its own way, and a caller's changes of an answer change no link.
func TestLinksShareNothing(t *testing.T) {
	a := pushed(t, 0, 3)
	b := *a
	push(t, a, "of a")
	push(t, &b, "of b")
	if a.Queue[3] != "of a" || b.Queue[3] != "of b" {
		t.Errorf("a copied link's text changed: %q, %q", a.Queue, b.Queue)
	}
	c := *a
	before := kept(c)
	expectTaken(t, "two came over", a, spelled(-1, 2, ""), "", false)
	push(t, a, "more")
	expectLink(t, "the copy", &c, before)

	want := slices.Clone(a.Packets())
	for i := range a.Packets() {
		a.Packets()[i] = "changed"
	}
	_ = append(a.Packets(), "more")
	expectPackets(t, "behind changed answers", a, want...)
}

// side is one end, what was pushed on it, and what came to it.
type side struct {
	end          link.Link
	pushed, came []string
}

// push: a text that is refused wasn't pushed.
func (s *side) push(text string) {
	if s.end.Push(text) == nil {
		s.pushed = append(s.pushed, text)
	}
}

func (s *side) take(t *testing.T, p string) {
	t.Helper()
	text, ok, err := s.end.Take(p)
	if err != nil {
		t.Errorf("Take(%.40x): %v", p, err)
	}
	if ok {
		s.came = append(s.came, text)
	}
}

// expectBeginning asks that what came is a beginning of what was pushed, in order, each once, and that both ends count so.
func expectBeginning(t *testing.T, from, to *side) {
	t.Helper()
	if n := len(to.came); n > len(from.pushed) || !slices.Equal(to.came, from.pushed[:n]) || to.end.Came != n {
		t.Fatalf("%d came, of %d that were pushed; Came %d", n, len(from.pushed), to.end.Came)
	}
	if from.end.Acked > to.end.Came || !slices.Equal(from.end.Queue, from.pushed[from.end.Acked:]) {
		t.Fatalf("Acked %d, Came %d, %d wait", from.end.Acked, to.end.Came, len(from.end.Queue))
	}
}

// round: packets to and fro, all of which arrive.
func round(t *testing.T, a, b *side) {
	t.Helper()
	for _, p := range a.end.Packets() {
		b.take(t, p)
	}
	for _, p := range b.end.Packets() {
		a.take(t, p)
	}
}

// P4.2: each packet that was ever made may be lost, doubled, late, and out of order.
func TestFIFO(t *testing.T) {
	for seed := range 30 {
		dice := rand.New(rand.NewSource(int64(seed)))
		var a, b side
		var toA, toB []string
		most := 0
		for i := range 3000 {
			switch dice.Intn(6) {
			case 0:
				a.push(strings.Repeat(fmt.Sprint(i), i%3))
			case 1:
				b.push(strings.Repeat(fmt.Sprint(i), i%3))
			case 2:
				toB = append(toB, a.end.Packets()...)
			case 3:
				toA = append(toA, b.end.Packets()...)
			case 4:
				if len(toB) > 0 {
					b.take(t, late(dice, toB))
				}
			default:
				if len(toA) > 0 {
					a.take(t, late(dice, toA))
				}
			}
			expectBeginning(t, &a, &b)
			expectBeginning(t, &b, &a)
			most = max(most, len(a.came), len(b.came))
		}
		if most < 10 {
			t.Errorf("only %d came: this tells little", most)
		}
		bringOver(t, &a, &b)
	}
}

// late: one of the packets, most often a new one; it stays, so that it may come again.
func late(dice *rand.Rand, l []string) string {
	if dice.Intn(3) > 0 {
		return l[len(l)-1-dice.Intn(min(len(l), 2*link.Window))]
	}
	return l[dice.Intn(len(l))]
}

// bringOver: behind whatever was lost, packets that all arrive bring all over (P4.3).
func bringOver(t *testing.T, a, b *side) {
	t.Helper()
	for range max(len(a.end.Queue), len(b.end.Queue))/link.Window + 2 {
		round(t, a, b)
	}
	if !slices.Equal(a.pushed, b.came) || !slices.Equal(b.pushed, a.came) {
		t.Errorf("%d of %d, %d of %d came", len(b.came), len(a.pushed), len(a.came), len(b.pushed))
	}
	if !a.end.Idle() || !b.end.Idle() {
		t.Errorf("not idle: %d and %d wait", len(a.end.Queue), len(b.end.Queue))
	}
}

// P4.2: the packets of one window in each order, each of them once or twice.
func TestFIFOInEachOrder(t *testing.T) {
	for order := range 4 * 4 * 4 * 4 * 4 {
		var a, b side
		for i := range 4 {
			a.push(name(i))
		}
		l := a.end.Packets()
		want := 0
		for n, rest := 0, order; n < 5; n, rest = n+1, rest/4 {
			b.take(t, l[rest%4])
			if rest%4 == want {
				want++
			}
		}
		if len(b.came) != want {
			t.Errorf("order %d: %d came, not %d", order, len(b.came), want)
		}
		expectBeginning(t, &a, &b)
	}
}

// P4.3: of n texts that wait, on one side or on both, after n / 8 and two rounds all came, all is told, and nothing is owed.
func TestAllIsBroughtOver(t *testing.T) {
	for n := range link.Most + 1 {
		for _, back := range []int{0, 1, n / 2, n} {
			var a, b side
			for i := range n {
				a.push(name(i))
			}
			for i := range min(back, n) {
				b.push(name(-i))
			}
			bringOver(t, &a, &b)
			if a.end.Acked != n || b.end.Acked != min(back, n) {
				t.Errorf("of %d and %d texts: Acked %d and %d", n, back, a.end.Acked, b.end.Acked)
			}
			expectPackets(t, "at the end", &a.end)
			expectPackets(t, "at the end", &b.end)
		}
	}
}

// P4.3: each round in which all packets arrive brings a whole window over.
func TestEachRoundBringsAWindow(t *testing.T) {
	var a, b side
	for i := range link.Most {
		a.push(name(i))
	}
	for i := range link.Most / link.Window {
		round(t, &a, &b)
		if want := (i + 1) * link.Window; len(b.came) != want || a.end.Acked != want {
			t.Errorf("behind %d rounds: %d came, Acked %d", i+1, len(b.came), a.end.Acked)
		}
	}
}
