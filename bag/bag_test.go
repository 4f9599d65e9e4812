package bag_test

import (
	"errors"
	"math"
	"math/rand"
	"slices"
	"strings"
	"testing"

	"wigwag/api"
	"wigwag/bag"
)

// expectAll asks for just these packets, by both calls that tell them.
func expectAll(t *testing.T, what string, b *bag.Bag, want ...bag.Packet) {
	t.Helper()
	if got := b.All(); !slices.Equal(got, want) || b.Len() != len(want) {
		t.Errorf("%s: %d packets, not %d: %.200v, not %.200v", what, b.Len(), len(want), got, want)
	}
}

// expectSent asks for the number that Send or Copy answered.
func expectSent(t *testing.T, what string, got int, err error, want int) {
	t.Helper()
	if got != want || err != nil {
		t.Errorf("%s = %d, %v; not %d", what, got, err, want)
	}
}

// expectRefused asks for an error beside zero values, and for packets that are as they were.
func expectRefused(t *testing.T, what string, b *bag.Bag, want api.Code, call func() (any, error)) {
	t.Helper()
	before := b.All()
	got, err := call()
	if !errors.Is(err, want) || api.Of(err) != want {
		t.Errorf("%s: %v, not %v", what, err, want)
	}
	if got != any(0) && got != any(bag.Packet{}) {
		t.Errorf("%s: %v beside an error", what, got)
	}
	expectAll(t, what, b, before...)
}

func expectTaken(t *testing.T, b *bag.Bag, want bag.Packet) {
	t.Helper()
	if got, err := b.Take(want.Id); got != want || err != nil {
		t.Errorf("Take(%d) = %v, %v; not %v", want.Id, got, err, want)
	}
}

func send(b *bag.Bag, from, to int, text string) func() (any, error) {
	return func() (any, error) { return b.Send(from, to, text) }
}

func take(b *bag.Bag, id int) func() (any, error) {
	return func() (any, error) { return b.Take(id) }
}

func again(b *bag.Bag, id int) func() (any, error) {
	return func() (any, error) { return b.Copy(id) }
}

// full: a bag of MaxFlight packets, one in ten of them to address 7.
func full(t *testing.T) *bag.Bag {
	var b bag.Bag
	for i := range api.MaxFlight {
		to := 8
		if i%10 == 0 {
			to = 7
		}
		n, err := b.Send(i, to, "x")
		expectSent(t, "Send", n, err, i+1)
	}
	return &b
}

// P3.1: the chapter's example.
func TestExample(t *testing.T) {
	var b bag.Bag
	n, err := b.Send(1, 2, "a")
	expectSent(t, "Send", n, err, 1)
	n, err = b.Copy(1)
	expectSent(t, "Copy", n, err, 2)
	expectTaken(t, &b, bag.Packet{Id: 1, From: 1, To: 2, Text: "a"})
	expectRefused(t, "Take, again", &b, api.ErrNone, take(&b, 1))
	expectAll(t, "at the end", &b, bag.Packet{Id: 2, From: 1, To: 2, Text: "a"})
}

// P3.1
func TestZeroBag(t *testing.T) {
	var b bag.Bag
	expectAll(t, "the zero Bag", &b)
	for _, id := range []int{0, 1, -1, math.MaxInt, math.MinInt} {
		expectRefused(t, "Take", &b, api.ErrNone, take(&b, id))
		expectRefused(t, "Copy", &b, api.ErrNone, again(&b, id))
		if n := b.Purge(id); n != 0 {
			t.Errorf("Purge(%d) = %d", id, n)
		}
	}
	n, err := b.Send(0, 0, "")
	expectSent(t, "the first Send", n, err, 1)
}

// P3.1: addresses are any ints, texts any bytes.
func TestAnyPackets(t *testing.T) {
	var b bag.Bag
	want := []bag.Packet{
		{Id: 1, From: math.MinInt, To: math.MaxInt, Text: ""},
		{Id: 2, From: -1, To: -1, Text: "\x00\xff\xfe"},
		{Id: 3, From: 0, To: 0, Text: "a"},
		{Id: 4, From: 0, To: 0, Text: "a"},
		{Id: 5, From: math.MaxInt, To: math.MinInt, Text: strings.Repeat("\xff", api.MaxText)},
	}
	for _, p := range want {
		n, err := b.Send(p.From, p.To, p.Text)
		expectSent(t, "Send", n, err, p.Id)
	}
	expectAll(t, "all", &b, want...)
	for _, p := range want {
		n, err := b.Copy(p.Id)
		expectSent(t, "Copy", n, err, p.Id+5)
	}
	for _, p := range want {
		expectTaken(t, &b, p)
		p.Id += 5
		expectTaken(t, &b, p)
	}
	expectAll(t, "none", &b)
}

// P3.1: a text may have MaxText bytes, and not one more.
func TestTextsThatAreTooLong(t *testing.T) {
	var b bag.Bag
	longest := strings.Repeat("x", api.MaxText)
	n, err := b.Send(1, 2, longest)
	expectSent(t, "Send of the longest", n, err, 1)
	expectRefused(t, "one byte more", &b, api.ErrArg, send(&b, 1, 2, longest+"x"))
	expectRefused(t, "many bytes more", &b, api.ErrArg, send(&b, 1, 2, strings.Repeat(longest, 9)))
	n, err = b.Send(1, 2, "")
	expectSent(t, "Send behind refused ones", n, err, 2)
}

// P3.1: there may be MaxFlight packets, and not one more.
func TestFull(t *testing.T) {
	b := full(t)
	long := strings.Repeat("x", api.MaxText+1)
	expectRefused(t, "Send", b, api.ErrFull, send(b, 1, 2, ""))
	expectRefused(t, "Send of too long a text", b, api.ErrArg, send(b, 1, 2, long))
	expectRefused(t, "Copy of the first", b, api.ErrFull, again(b, 1))
	expectRefused(t, "Copy of the last", b, api.ErrFull, again(b, api.MaxFlight))
	for _, id := range []int{0, -1, api.MaxFlight + 1} {
		expectRefused(t, "Copy of none", b, api.ErrNone, again(b, id))
		expectRefused(t, "Take of none", b, api.ErrNone, take(b, id))
	}
	expectTaken(t, b, bag.Packet{Id: 5, From: 4, To: 8, Text: "x"})
	n, err := b.Copy(4)
	expectSent(t, "Copy where one left", n, err, api.MaxFlight+1)
	expectRefused(t, "Send", b, api.ErrFull, send(b, 1, 2, ""))
	if n := b.Purge(7); n != api.MaxFlight/10 || b.Len() != api.MaxFlight-n {
		t.Errorf("Purge = %d, %d are left", n, b.Len())
	}
	n, err = b.Send(1, 2, "")
	expectSent(t, "Send where many left", n, err, api.MaxFlight+2)
}

// P3.1: numbers go on, whoever left and whatever was refused.
func TestNumbersGoOn(t *testing.T) {
	var b bag.Bag
	for id := 1; id <= 4; id++ {
		n, err := b.Send(1, 2, "a")
		expectSent(t, "Send", n, err, id)
	}
	expectTaken(t, &b, bag.Packet{Id: 4, From: 1, To: 2, Text: "a"})
	n, err := b.Send(3, 4, "b")
	expectSent(t, "Send behind the last one's going", n, err, 5)
	if n := b.Purge(2) + b.Purge(4); n != 4 {
		t.Errorf("Purge = %d", n)
	}
	expectAll(t, "all left", &b)
	expectRefused(t, "Copy", &b, api.ErrNone, again(&b, 5))
	expectRefused(t, "Send", &b, api.ErrArg, send(&b, 1, 2, strings.Repeat("x", api.MaxText+1)))
	n, err = b.Send(5, 6, "c")
	expectSent(t, "Send in an empty bag", n, err, 6)
	n, err = b.Copy(6)
	expectSent(t, "Copy", n, err, 7)
}

// P3.1: a copy is as the packet, and each of them leaves by itself.
func TestCopies(t *testing.T) {
	var b bag.Bag
	b.Send(1, 2, "a")
	b.Send(3, 4, "b")
	n, err := b.Copy(1)
	expectSent(t, "Copy", n, err, 3)
	n, err = b.Copy(3)
	expectSent(t, "Copy of a copy", n, err, 4)
	expectTaken(t, &b, bag.Packet{Id: 3, From: 1, To: 2, Text: "a"})
	expectRefused(t, "Copy of one that left", &b, api.ErrNone, again(&b, 3))
	expectAll(t, "copies", &b,
		bag.Packet{Id: 1, From: 1, To: 2, Text: "a"},
		bag.Packet{Id: 2, From: 3, To: 4, Text: "b"},
		bag.Packet{Id: 4, From: 1, To: 2, Text: "a"})
}

// P3.1: Purge looks at who is sent to, not at who sent.
func TestPurge(t *testing.T) {
	var b bag.Bag
	b.Send(2, 1, "a")
	b.Send(1, 2, "b")
	b.Send(2, 2, "c")
	b.Send(2, 3, "d")
	b.Send(3, 2, "e")
	for _, none := range []int{0, 4, -2, math.MinInt} {
		if n := b.Purge(none); n != 0 || b.Len() != 5 {
			t.Errorf("Purge(%d) = %d, %d are left", none, n, b.Len())
		}
	}
	if n := b.Purge(2); n != 3 {
		t.Errorf("Purge(2) = %d", n)
	}
	expectAll(t, "behind Purge", &b,
		bag.Packet{Id: 1, From: 2, To: 1, Text: "a"},
		bag.Packet{Id: 4, From: 2, To: 3, Text: "d"})
	if n := b.Purge(2); n != 0 {
		t.Errorf("Purge(2), again = %d", n)
	}
	for _, gone := range []int{2, 3, 5} {
		expectRefused(t, "Take of a purged one", &b, api.ErrNone, take(&b, gone))
	}
}

// K3: what All answered is the caller's own, and so is the room behind it.
func TestAnswersAreNew(t *testing.T) {
	var b bag.Bag
	for range 3 {
		b.Send(1, 2, "a")
	}
	first := b.All()
	kept := slices.Clone(first)
	b.Take(1)
	b.Send(5, 6, "b")
	b.Purge(2)
	if !slices.Equal(first, kept) {
		t.Errorf("an answer changed: %v, not %v", first, kept)
	}
	left := bag.Packet{Id: 4, From: 5, To: 6, Text: "b"}
	l := b.All()
	l[0] = bag.Packet{Id: 99}
	_ = append(l, bag.Packet{Id: 100})
	expectAll(t, "behind a changed answer", &b, left)
	n, err := b.Send(7, 8, "c")
	expectSent(t, "Send", n, err, 5)
	_ = append(b.All()[:0], bag.Packet{Id: 101}, bag.Packet{Id: 102})
	expectAll(t, "behind a changed answer", &b, left, bag.Packet{Id: 5, From: 7, To: 8, Text: "c"})
}

// model is a bag that is told in the plainest way.
type model struct {
	at   map[int]bag.Packet
	last int
}

func (m *model) put(p bag.Packet) int {
	m.last++
	p.Id = m.last
	m.at[p.Id] = p
	return p.Id
}

func (m *model) all() []bag.Packet {
	var l []bag.Packet
	for id := 1; id <= m.last; id++ {
		if p, here := m.at[id]; here {
			l = append(l, p)
		}
	}
	return l
}

func (m *model) purge(to int) int {
	n := 0
	for id, p := range m.at {
		if p.To == to {
			delete(m.at, id)
			n++
		}
	}
	return n
}

// P3.1, P3.2: long rows of calls, beside the plain bag: what is taken was sent, and is taken once.
func TestLongRows(t *testing.T) {
	for seed := range 20 {
		dice := rand.New(rand.NewSource(int64(seed)))
		b, m := &bag.Bag{}, &model{at: map[int]bag.Packet{}}
		taken := map[int]bool{}
		for range 400 {
			id := dice.Intn(m.last+3) - 1
			switch dice.Intn(12) {
			case 0, 1, 2, 3:
				p := bag.Packet{From: dice.Intn(4), To: dice.Intn(4), Text: strings.Repeat("x", dice.Intn(5))}
				n, err := b.Send(p.From, p.To, p.Text)
				expectSent(t, "Send", n, err, m.put(p))
			case 4, 5, 6, 7:
				want, here := m.at[id]
				if !here {
					expectRefused(t, "Take", b, api.ErrNone, take(b, id))
					break
				}
				if taken[id] {
					t.Errorf("%d is taken twice", id)
				}
				expectTaken(t, b, want)
				taken[id] = true
				delete(m.at, id)
			case 8, 9, 10:
				p, here := m.at[id]
				if !here {
					expectRefused(t, "Copy", b, api.ErrNone, again(b, id))
					break
				}
				n, err := b.Copy(id)
				expectSent(t, "Copy", n, err, m.put(p))
			default:
				if n, want := b.Purge(id), m.purge(id); n != want {
					t.Errorf("Purge(%d) = %d, not %d", id, n, want)
				}
			}
			expectAll(t, "in a long row", b, m.all()...)
		}
	}
}

// P3.2: in any order, each packet is taken once, as it was sent.
func TestTakenOnce(t *testing.T) {
	b := full(t)
	left := b.All()
	rand.New(rand.NewSource(1)).Shuffle(len(left), func(i, j int) { left[i], left[j] = left[j], left[i] })
	for i, p := range left {
		expectTaken(t, b, p)
		if _, err := b.Take(p.Id); !errors.Is(err, api.ErrNone) || b.Len() != len(left)-i-1 {
			t.Fatalf("Take(%d), again: %v, %d are left", p.Id, err, b.Len())
		}
	}
	expectAll(t, "at the end", b)
}
