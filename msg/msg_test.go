package msg_test

import (
	"errors"
	"fmt"
	"math"
	"math/rand"
	"slices"
	"strings"
	"testing"

	"wigwag/api"
	"wigwag/msg"
	"wigwag/value"
)

var (
	event   = value.Event{Values: []value.Value{{Num: -5}, {Str: "ab"}}, Payload: "p"}
	graft   = msg.Msg{Kind: msg.Graft, Group: "g", Filters: []string{"a", "bc"}}
	all     = msg.Msg{Kind: msg.Graft, Group: "g", Any: true}
	prune   = msg.Msg{Kind: msg.Prune, Group: "g"}
	route   = msg.Msg{Kind: msg.Route, Group: "g", Pub: 3, Seq: 9, Hops: 4, Event: event}
	down    = msg.Msg{Kind: msg.Down, Group: "g", Pub: 3, Seq: 9, Event: event}
	confirm = msg.Msg{Kind: msg.Confirm, Group: "g", Pub: 1, Seq: 2}
)

func eachKind() []msg.Msg { return []msg.Msg{graft, all, prune, route, down, confirm} }

// with: a message with something of it changed.
func with(m msg.Msg, change func(*msg.Msg)) msg.Msg {
	m.Filters = slices.Clone(m.Filters)
	m.Event.Values = slices.Clone(m.Event.Values)
	change(&m)
	return m
}

// expectRefused asks for an error by Check and by Bytes, beside no bytes.
func expectRefused(t *testing.T, what string, m msg.Msg, want api.Code) {
	t.Helper()
	if err := msg.Check(m); !errors.Is(err, want) || api.Of(err) != want {
		t.Errorf("%s: Check(%.200s): %v, not %v", what, told(m), err, want)
	}
	if s, err := msg.Bytes(m); s != "" || !errors.Is(err, want) || api.Of(err) != want {
		t.Errorf("%s: Bytes(%.200s) = %.60x, %v; not %v", what, told(m), s, err, want)
	}
}

// expectSpelled asks for bytes that the test tells itself.
func expectSpelled(t *testing.T, m msg.Msg, want string) {
	t.Helper()
	if s, err := msg.Bytes(m); s != want || err != nil {
		t.Errorf("Bytes(%s) = %x, %v; not %x", told(m), s, err, want)
	}
	if got, err := msg.Read(want); told(got) != told(m) || err != nil {
		t.Errorf("Read(%x) = %s, %v; not %s", want, told(got), err, told(m))
	}
}

// expectNone asks for an error by Read that the test tells itself.
func expectNone(t *testing.T, what, s string, want api.Code) {
	t.Helper()
	if m, err := msg.Read(s); told(m) != zero || !errors.Is(err, want) || api.Of(err) != want {
		t.Errorf("%s: Read(%.60x) = %.200s, %v; not %v", what, s, told(m), err, want)
	}
}

// P15.1: the numbers that stand for the kinds, and the limits.
func TestNames(t *testing.T) {
	if msg.Graft != 1 || msg.Prune != 2 || msg.Route != 3 || msg.Down != 4 || msg.Confirm != 5 {
		t.Error(msg.Graft, msg.Prune, msg.Route, msg.Down, msg.Confirm)
	}
	if msg.MaxGroup != 40 || msg.MaxFilters != 16 || msg.MaxBytes != 1970 {
		t.Error(msg.MaxGroup, msg.MaxFilters, msg.MaxBytes)
	}
}

// P15.1, P15.3: the chapter's examples, and one of each kind, byte by byte.
func TestExamples(t *testing.T) {
	expectSpelled(t, prune, "\x04\x01g")
	expectSpelled(t, confirm, "\x0a\x01g\x02\x04")
	expectSpelled(t, all, "\x02\x01g\x01")
	expectSpelled(t, msg.Msg{Kind: msg.Graft, Group: "g"}, "\x02\x01g\x00")
	expectSpelled(t, graft, "\x02\x01g\x04\x01a\x02bc")
	expectSpelled(t, route, "\x06\x01g\x06\x12\x08\x04\x09\x00\x00\x02ab\x01p")
	expectSpelled(t, down, "\x08\x01g\x06\x12\x00\x04\x09\x00\x00\x02ab\x01p")
	expectSpelled(t, msg.Msg{Kind: msg.Down, Group: "g", Seq: 1}, "\x08\x01g\x00\x02\x00\x00\x00")
	expectSpelled(t, msg.Msg{Kind: msg.Confirm, Group: "price.3.1", Pub: 31, Seq: 1 << 30}, "\x0a\x09price.3.1\x3e\x80\x80\x80\x80\x08")
}

// P15.1: a group has 1 to 40 bytes, whatever they are; that is asked first.
func TestGroup(t *testing.T) {
	for _, m := range eachKind() {
		for _, g := range []string{"g", "\x00", "\xff", " ", strings.Repeat("g", 39), strings.Repeat("\x80", 40)} {
			m.Group = g
			if err := msg.Check(m); err != nil {
				t.Errorf("Check(%s): %v", told(m), err)
			}
			expectBytes(t, "a group", m)
		}
		for _, g := range []string{"", strings.Repeat("g", 41), strings.Repeat("g", 2000)} {
			m := with(m, func(m *msg.Msg) { m.Group = g })
			expectRefused(t, "a group", m, api.ErrArg)
			for _, kind := range []int{0, -1, 6, 2} {
				m.Kind, m.Any, m.Filters, m.Hops = kind, true, texts(17), 66
				expectRefused(t, "a group and all else", m, api.ErrArg)
			}
		}
	}
}

// P15.1: filters: 0 to 16 of any bytes, none beside Any, none of another kind.
func TestFilters(t *testing.T) {
	for _, n := range []int{0, 1, 15, 16} {
		m := with(graft, func(m *msg.Msg) { m.Filters = texts(n) })
		if err := msg.Check(m); err != nil || expectBytes(t, "filters", m) != api.OK {
			t.Errorf("%d filters: %v", n, err)
		}
		if n > 0 {
			m.Any = true
			expectRefused(t, "Any with filters", m, api.ErrForm)
		}
	}
	for _, n := range []int{17, 18, 1000} {
		m := with(graft, func(m *msg.Msg) { m.Filters = make([]string, n) })
		expectRefused(t, "too many", m, api.ErrForm)
		m.Any = true
		expectRefused(t, "too many, and Any", m, api.ErrForm)
	}
	for _, m := range []msg.Msg{prune, route, down, confirm} {
		expectRefused(t, "Any", with(m, func(m *msg.Msg) { m.Any = true }), api.ErrForm)
		expectRefused(t, "a filter", with(m, func(m *msg.Msg) { m.Filters = []string{""} }), api.ErrForm)
		expectRefused(t, "17 filters", with(m, func(m *msg.Msg) { m.Filters = texts(17) }), api.ErrForm)
		// Asked ahead of what is in its range.
		expectRefused(t, "Any, and a Pub that is none", with(m, func(m *msg.Msg) { m.Any, m.Pub = true, -1 }), api.ErrForm)
		if err := msg.Check(with(m, func(m *msg.Msg) { m.Filters = []string{} })); err != nil {
			t.Errorf("an empty list: %v", err)
		}
	}
}

// P15.1: what Graft and Prune don't have, and what Confirm and Down don't.
func TestWhatAKindHasNot(t *testing.T) {
	changes := map[string]func(*msg.Msg){
		"Pub":      func(m *msg.Msg) { m.Pub = 1 },
		"Pub -1":   func(m *msg.Msg) { m.Pub = -1 },
		"Seq":      func(m *msg.Msg) { m.Seq = 1 },
		"Seq -1":   func(m *msg.Msg) { m.Seq = -1 },
		"Hops":     func(m *msg.Msg) { m.Hops = 1 },
		"Hops 66":  func(m *msg.Msg) { m.Hops = 66 },
		"Hops -1":  func(m *msg.Msg) { m.Hops = -1 },
		"a value":  func(m *msg.Msg) { m.Event.Values = values(1) },
		"a zero":   func(m *msg.Msg) { m.Event.Values = []value.Value{{}} },
		"5 values": func(m *msg.Msg) { m.Event.Values = values(5) },
		"payload":  func(m *msg.Msg) { m.Event.Payload = "\x00" },
	}
	for what, change := range changes {
		for _, m := range []msg.Msg{graft, all, prune} {
			expectRefused(t, what, with(m, change), api.ErrForm)
		}
	}
	for _, what := range []string{"Hops", "Hops 66", "Hops -1"} {
		for _, m := range []msg.Msg{confirm, down} {
			expectRefused(t, what, with(m, changes[what]), api.ErrForm)
			// Asked ahead of the ranges of Pub and Seq.
			expectRefused(t, what, with(with(m, changes[what]), func(m *msg.Msg) { m.Pub, m.Seq = 32, 0 }), api.ErrForm)
		}
	}
	for _, what := range []string{"a value", "a zero", "5 values", "payload"} {
		expectRefused(t, what, with(confirm, changes[what]), api.ErrForm)
		expectRefused(t, what, with(with(confirm, changes[what]), func(m *msg.Msg) { m.Pub, m.Seq = 32, 0 }), api.ErrForm)
	}
}

// P15.1: the ranges of Pub, Seq and Hops.
func TestRanges(t *testing.T) {
	for _, m := range []msg.Msg{route, down, confirm} {
		for pub, want := range map[int]api.Code{math.MinInt: 1, -1: 1, 0: 0, 1: 0, 30: 0, 31: 0, 32: 1, 1 << 32: 1, math.MaxInt: 1} {
			expectRange(t, with(m, func(m *msg.Msg) { m.Pub = pub }), want)
		}
		for seq, want := range map[int]api.Code{math.MinInt: 1, -1: 1, 0: 1, 1: 0, 2: 0, 1<<30 - 1: 0, 1 << 30: 0, 1<<30 + 1: 1, 1<<32 + 1: 1, math.MaxInt: 1} {
			expectRange(t, with(m, func(m *msg.Msg) { m.Seq = seq }), want)
		}
	}
	for hops, want := range map[int]api.Code{math.MinInt: 1, -1: 1, 0: 0, 1: 0, 64: 0, 65: 0, 66: 1, math.MaxInt: 1} {
		expectRange(t, with(route, func(m *msg.Msg) { m.Hops = hops }), want)
	}
}

func expectRange(t *testing.T, m msg.Msg, want api.Code) {
	t.Helper()
	if want == api.OK {
		if err := msg.Check(m); err != nil {
			t.Errorf("Check(%s): %v", told(m), err)
		}
		expectBytes(t, "in its range", m)
		return
	}
	expectRefused(t, "out of its range", m, want)
	expectNone(t, "out of its range", spelled(m), want)
	if m.Kind != msg.Confirm {
		// Five values are asked of behind the ranges; bytes of five values aren't read so far.
		m.Event.Values = values(5)
		expectRefused(t, "out of its range, with 5 values", m, want)
	}
}

// P15.1, P15.2: at most 4 values.
func TestValues(t *testing.T) {
	for _, m := range []msg.Msg{route, down} {
		for n := range 5 {
			m.Event.Values = values(n)
			if err := msg.Check(m); err != nil || expectBytes(t, "values", m) != api.OK {
				t.Errorf("%d values: %v", n, err)
			}
		}
		m.Event.Values = values(5)
		expectRefused(t, "5 values", m, api.ErrForm)
		expectNone(t, "5 values", spelled(m), api.ErrArg)
		m.Event.Values = make([]value.Value, 1000)
		expectRefused(t, "1000 values", m, api.ErrForm)
		// The number of values is refused where it stands, whatever comes behind it.
		ahead := "\x06\x01g\x00\x02\x00"
		expectNone(t, "-1 values", ahead+"\x01\x00", api.ErrArg)
		expectNone(t, "5 values, cut off", ahead+"\x0a", api.ErrArg)
		expectNone(t, "values by a long number", ahead+"\xff\xff\xff\xff\xff\xff\xff\xff\xff\x01", api.ErrArg)
		expectNone(t, "Pub and values", "\x06\x01g\x01\x00\x00\x0a", api.ErrArg)
	}
}

// P15.1: another kind has no form, whatever else it has.
func TestKinds(t *testing.T) {
	for _, kind := range []int{0, -1, -2, 6, 7, 255, 256, 257, 1<<32 + 1, math.MinInt, math.MaxInt} {
		m := msg.Msg{Kind: kind, Group: "g"}
		expectRefused(t, "a kind that is none", m, api.ErrForm)
		expectNone(t, "a kind that is none", spelled(m), api.ErrForm)
		expectNone(t, "and something behind it", spelled(m)+"\x01", api.ErrForm)
		expectNone(t, "without a group", spelled(msg.Msg{Kind: kind}), api.ErrArg)
		expectNone(t, "with a group too long", spelled(msg.Msg{Kind: kind, Group: strings.Repeat("g", 41)}), api.ErrArg)
		expectNone(t, "cut off", spellInt(kind), api.ErrEnd)
		m.Pub, m.Seq = -1, -1
		expectRefused(t, "a kind that is none, with more", m, api.ErrForm)
	}
}

// P15.1, P15.3: all messages of things at and beside their edges.
func TestAllEdges(t *testing.T) {
	counts := map[api.Code]int{}
	for _, kind := range []int{-1, 0, 1, 2, 3, 4, 5, 6} {
		for _, group := range []int{0, 1, 40, 41} {
			for _, filters := range []int{-1, 0, 1, 16, 17} {
				for _, pub := range []int{-1, 0, 31, 32} {
					for _, seq := range []int{0, 1, 1 << 30, 1<<30 + 1} {
						for _, hops := range []int{-1, 0, 65, 66} {
							for _, n := range []int{0, 4, 5} {
								m := msg.Msg{Kind: kind, Group: strings.Repeat("g", group), Any: filters < 0 || pub == 32 && seq == 0, Filters: texts(max(0, filters)), Pub: pub, Seq: seq, Hops: hops}
								m.Event.Values = values(n)
								counts[expectBytes(t, "an edge", m)]++
								m.Event.Payload = "p"
								counts[expectBytes(t, "an edge", m)]++
							}
						}
					}
				}
			}
		}
	}
	if counts[api.OK] < 60 || counts[api.ErrArg] < 1000 || counts[api.ErrForm] < 1000 {
		t.Error(counts)
	}
}

// P15.1, P15.2: 1970 bytes and not one more.
func TestLongest(t *testing.T) {
	for _, m := range []msg.Msg{route, down} {
		for _, by := range []func(*msg.Msg, string){
			func(m *msg.Msg, s string) { m.Event.Payload = s },
			func(m *msg.Msg, s string) { m.Event.Values[1].Str = s },
		} {
			expectLongest(t, m, by)
		}
	}
	expectLongest(t, graft, func(m *msg.Msg, s string) { m.Filters[1] = s })
	expectLongest(t, graft, func(m *msg.Msg, s string) {
		m.Filters = []string{s[:len(s)/2], "", s[len(s)/2:]}
	})
	// Check doesn't ask for the length.
	if err := msg.Check(with(down, func(m *msg.Msg) { m.Event.Payload = strings.Repeat("p", 5000) })); err != nil {
		t.Errorf("Check of a long message: %v", err)
	}
	// An error of Check is told ahead of the length.
	expectRefused(t, "long and wrong", with(down, func(m *msg.Msg) { m.Event.Payload, m.Pub = strings.Repeat("p", 5000), 32 }), api.ErrArg)
	expectRefused(t, "long and wrong", with(graft, func(m *msg.Msg) { m.Filters, m.Any = []string{strings.Repeat("p", 5000)}, true }), api.ErrForm)
	for _, s := range []string{strings.Repeat("\x00", 1971), strings.Repeat("\xff", 1971), strings.Repeat("\x04", 100000), "\x04\x01g" + strings.Repeat("g", 1968)} {
		expectNone(t, "too many bytes", s, api.ErrFull)
	}
	expectNone(t, "1970 bytes", "\x04\x01g"+strings.Repeat("g", 1967), api.ErrForm)
	expectNone(t, "1970 bytes", strings.Repeat("\xff", 1970), api.ErrForm)
}

// expectLongest fills a message up to 1970 bytes, and then beyond.
func expectLongest(t *testing.T, m msg.Msg, by func(*msg.Msg, string)) {
	t.Helper()
	reached := 0
	for n := 1900; n < 1990; n++ {
		m := with(m, func(m *msg.Msg) { by(m, strings.Repeat("x", n)) })
		want := spelled(m)
		if len(want) > 1970 {
			if s, err := msg.Bytes(m); s != "" || !errors.Is(err, api.ErrFull) {
				t.Errorf("Bytes of %d bytes: %.20x, %v", len(want), s, err)
			}
			expectNone(t, fmt.Sprint(len(want), " bytes"), want, api.ErrFull)
		} else if s, err := msg.Bytes(m); s != want || err != nil {
			t.Errorf("Bytes of %d bytes: %v", len(want), err)
		} else if got, err := msg.Read(want); told(got) != told(m) || err != nil {
			t.Errorf("Read of %d bytes: %v", len(want), err)
		}
		if len(want) == 1970 || len(want) == 1971 {
			reached++
		}
	}
	if reached != 2 {
		t.Error("1970 and 1971 bytes weren't reached")
	}
}

// P15.2: the number of filters is -1 to 16; another one is refused where it stands.
func TestNumberOfFilters(t *testing.T) {
	ahead := "\x02\x01g"
	for _, n := range []int{-2, -3, 17, 18, 1000, math.MinInt, math.MaxInt} {
		for _, behind := range []string{"", "\x00", strings.Repeat("\x00", 17), strings.Repeat("\x00", 1000), "\x80\x00"} {
			expectNone(t, fmt.Sprint(n, " filters"), ahead+spellInt(n)+behind, api.ErrForm)
		}
	}
	expectNone(t, "-2 without a group", "\x02\x00\x03", api.ErrForm)
	expectNone(t, "16 of 17", ahead+"\x20"+strings.Repeat("\x00", 17), api.ErrForm)
	expectNone(t, "16, one wanting", ahead+"\x20"+strings.Repeat("\x00", 15), api.ErrEnd)
	expectNone(t, "a filter too long", ahead+"\x02"+number(1971), api.ErrArg)
	expectNone(t, "a filter that is wanting", ahead+"\x02"+number(1970), api.ErrEnd)
	expectNone(t, "Any with a filter", ahead+"\x01\x00", api.ErrForm)
	expectSpelled(t, msg.Msg{Kind: msg.Graft, Group: "g", Filters: make([]string, 16)}, ahead+"\x20"+strings.Repeat("\x00", 16))
}

// P15.2: the errors of layer 2, where they stand, ahead of those of Check.
func TestErrorsInTheOrderOfReading(t *testing.T) {
	for i, c := range []struct {
		s    string
		want api.Code
	}{
		{"", api.ErrEnd},
		{"\x04", api.ErrEnd},
		{"\x04\x01", api.ErrEnd},
		{"\x04\x00", api.ErrArg},                           // no group: Check's
		{"\x04\x00\x00", api.ErrForm},                      // Done is ahead of Check
		{"\x04\x29" + strings.Repeat("g", 41), api.ErrArg}, // the group's Text of at most 40 bytes
		{"\x04\x29", api.ErrArg},                           // ahead of its bytes
		{"\x04\x28" + strings.Repeat("g", 39), api.ErrEnd},
		{"\x84\x00\x01g", api.ErrForm}, // 2 spelt otherwise
		{"\x04\x81\x00g", api.ErrForm}, // 1 spelt otherwise
		{"\x0a\x01g\x02", api.ErrEnd},
		{"\x0a\x01g\x82\x00\x04", api.ErrForm},
		{"\x0a\x01g\x40\x84\x00", api.ErrForm},                       // Pub 32, and then 2 spelt otherwise
		{"\x0a\x01g\x40\x04", api.ErrArg},                            // Pub 32
		{"\x0a\x01g\x40\x04\x00", api.ErrForm},                       // and a byte more
		{"\x0a\x01g\x02\x04\x00", api.ErrForm},                       // Confirm has no Hops
		{"\x08\x01g\x02\x04\x02\x00\x00", api.ErrForm},               // Down with Hops
		{"\x06\x01g\x02\x04\x84\x01\x00\x00", api.ErrArg},            // Hops 66
		{"\x06\x01g\x02\x04\x00\x02\x00" + number(1971), api.ErrArg}, // a text too long
		{"\x06\x01g\x02\x04\x00\x02\x00" + number(1970), api.ErrEnd},
		{"\x06\x01g\x02\x04\x00\x00" + number(1971) + "x", api.ErrArg}, // a payload too long
		{"\x06\x01g\x02\x04\x00\x00" + number(1970) + "x", api.ErrEnd},
		{"\x06\x01g\x02\x04\x00\x00", api.ErrEnd},                      // no payload
		{"\xff\xff\xff\xff\xff\xff\xff\xff\xff\x02\x01g", api.ErrForm}, // beyond 64 bits
		{"\xff\xff\xff\xff\xff\xff\xff\xff\xff\x01\x01g", api.ErrForm}, // the least int is no kind
	} {
		expectNone(t, fmt.Sprint("bytes ", i), c.s, c.want)
		expectRead(t, fmt.Sprint("bytes ", i), c.s)
	}
}

// P15.2: cut off anywhere bytes are wanting; with one more behind they aren't in form.
func TestCutOffAndOneMore(t *testing.T) {
	more := []msg.Msg{
		with(route, func(m *msg.Msg) { m.Event.Values, m.Hops = values(4), 65 }),
		with(confirm, func(m *msg.Msg) { m.Pub, m.Seq, m.Group = 31, 1<<30, strings.Repeat("g", 40) }),
		with(graft, func(m *msg.Msg) { m.Filters = texts(16) }),
		with(down, func(m *msg.Msg) { m.Event.Payload = strings.Repeat("p", 200) }),
	}
	for _, m := range append(eachKind(), more...) {
		s, err := msg.Bytes(m)
		if err != nil {
			t.Fatal(err)
		}
		for i := range s {
			expectNone(t, "cut off", s[:i], api.ErrEnd)
			expectRead(t, "cut off", s[:i])
		}
		for b := range 256 {
			expectNone(t, "one more", s+string([]byte{byte(b)}), api.ErrForm)
			expectRead(t, "one more ahead", string([]byte{byte(b)})+s)
		}
		for i := range s {
			for b := range 256 {
				expectRead(t, "another byte", s[:i]+string([]byte{byte(b)})+s[i+1:])
				expectRead(t, "a byte between", s[:i]+string([]byte{byte(b)})+s[i:])
			}
			expectRead(t, "one less", s[:i]+s[i+1:])
		}
	}
}

// P15.2: all bytes up to three, and longer ones of those that matter.
func TestShortBytes(t *testing.T) {
	for a := range 256 {
		expectRead(t, "one byte", string([]byte{byte(a)}))
		for b := range 256 {
			expectRead(t, "two bytes", string([]byte{byte(a), byte(b)}))
		}
	}
	few := []byte{0, 1, 2, 4, 6, 8, 10, 12, 0x80}
	row := []string{""}
	counts := map[api.Code]int{}
	for range 6 {
		var next []string
		for _, s := range row {
			for _, b := range few {
				next = append(next, s+string([]byte{b}))
			}
		}
		row = next
		for _, s := range row {
			counts[expectRead(t, "a few bytes", s)]++
		}
	}
	if counts[api.OK] < 100 || counts[api.ErrArg] < 100 || counts[api.ErrForm] < 100 || counts[api.ErrEnd] < 100 {
		t.Error(counts)
	}
}

// P15.1, P15.2, P15.3: many random messages, and bytes that are like theirs.
func TestRandomMessages(t *testing.T) {
	dice := rand.New(rand.NewSource(15))
	counts := map[string]int{}
	for range 60000 {
		m := drawn(dice)
		counts["bytes "+expectBytes(t, "random", m).Error()]++
		s := []byte(spelled(m))
		counts["read "+expectRead(t, "random", string(s)).Error()]++
		for range 1 + dice.Intn(3) {
			at := dice.Intn(len(s))
			switch dice.Intn(4) {
			case 0:
				s = s[:at+1]
			case 1:
				s = slices.Insert(s, at, byte(dice.Intn(256)))
			default:
				s[at] = []byte{0, 1, 2, 0x20, 0x22, 0x40, 0x7f, 0x80, 0xff, byte(dice.Intn(256)), s[at] + 1, s[at] - 1, s[at] ^ 0x80}[dice.Intn(13)]
			}
		}
		counts["read "+expectRead(t, "changed", string(s)).Error()]++
	}
	for _, what := range []string{"bytes ok", "bytes full", "bytes arg", "bytes form", "read ok", "read full", "read arg", "read form", "read end"} {
		if counts[what] < 100 {
			t.Errorf("%s: just %d", what, counts[what])
		}
	}
}

// drawn: a message of any things, most of them in form.
func drawn(dice *rand.Rand) msg.Msg {
	m := with(eachKind()[dice.Intn(6)], func(m *msg.Msg) {})
	text := func(most int) string { return strings.Repeat(string([]byte{byte(dice.Intn(256))}), dice.Intn(most)) }
	m.Group = "g" + text(42)
	for range dice.Intn(3) {
		switch dice.Intn(9) {
		case 0:
			m.Kind = dice.Intn(8) - 1
		case 1:
			m.Any = !m.Any
		case 2:
			m.Filters = texts(dice.Intn(19))
		case 3:
			m.Pub = dice.Intn(34) - 1
		case 4:
			m.Seq = []int{0, 1, 2, 63, 64, 8191, 8192, 1 << 30, 1<<30 + 1}[dice.Intn(9)]
		case 5:
			m.Hops = dice.Intn(68) - 1
		case 6:
			m.Event.Values = values(dice.Intn(6))
		case 7:
			m.Event.Payload = text(300)
		}
	}
	if len(m.Filters) > 0 {
		m.Filters[dice.Intn(len(m.Filters))] = text([]int{10, 200, 2200}[dice.Intn(3)])
	}
	if len(m.Event.Values) > 0 {
		m.Event.Values[dice.Intn(len(m.Event.Values))] = value.Value{Num: int(dice.Uint64()) >> dice.Intn(64), Str: text([]int{10, 200, 2200}[dice.Intn(3)])}
	}
	return m
}

// K3: nothing that is handed in changes, nor what lies behind it; what is answered shares no memory with another answer.
func TestNothingIsShared(t *testing.T) {
	filters := append(make([]string, 0, 40), "b", "a", "b")
	spare := filters[:40]
	vals := append(make([]value.Value, 0, 10), value.Value{Num: 1}, value.Value{Str: "s"})
	room := vals[:10]
	for i := len(filters); i < 40; i++ {
		spare[i] = "spare"
	}
	for i := len(vals); i < 10; i++ {
		room[i].Str = "spare"
	}
	wish := msg.Msg{Kind: msg.Graft, Group: "g", Filters: filters}
	tell := msg.Msg{Kind: msg.Route, Group: "g", Seq: 1, Event: value.Event{Values: vals}}
	before := fmt.Sprint(spare, room)
	for _, m := range []msg.Msg{wish, tell} {
		expectBytes(t, "shared", m)
	}
	if after := fmt.Sprint(spare, room); after != before {
		t.Errorf("%s; not %s", after, before)
	}
	for _, m := range []msg.Msg{wish, tell} {
		s := spelled(m)
		one, _ := msg.Read(s)
		two, _ := msg.Read(s)
		if len(one.Filters) > 0 {
			one.Filters[0] = "changed"
			_ = append(one.Filters, "more")
		}
		if len(one.Event.Values) > 0 {
			one.Event.Values[0].Num = 77
			_ = append(one.Event.Values, value.Value{Num: 78})
		}
		if three, _ := msg.Read(s); told(two) != told(m) || told(three) != told(m) {
			t.Errorf("%s, %s; not %s", told(two), told(three), told(m))
		}
	}
}
