package msg_test

import (
	"fmt"
	"math"
	"strings"
	"testing"

	"wigwag/api"
	"wigwag/msg"
	"wigwag/value"
)

// What a message is, told a second time, without layer 2.

// number: seven bits a byte, the lowest ones first.
func number(n uint64) string {
	if n < 128 {
		return string([]byte{byte(n)})
	}
	return string([]byte{byte(128 + n%128)}) + number(n/128)
}

func spellInt(n int) string {
	if n < 0 {
		return number(2*uint64(-(n+1)) + 1)
	}
	return number(2 * uint64(n))
}

func spellText(s string) string { return number(uint64(len(s))) + s }

// spelled: the bytes of a message, in form or not, as the chapter's second paragraph says.
func spelled(m msg.Msg) string {
	s := spellInt(m.Kind) + spellText(m.Group)
	if m.Kind == 1 && m.Any {
		return s + spellInt(-1)
	}
	if m.Kind == 1 {
		s += spellInt(len(m.Filters))
		for _, f := range m.Filters {
			s += spellText(f)
		}
	}
	if m.Kind >= 3 && m.Kind <= 5 {
		s += spellInt(m.Pub) + spellInt(m.Seq)
	}
	if m.Kind == 3 || m.Kind == 4 {
		s += spellInt(m.Hops) + spellInt(len(m.Event.Values))
		for _, v := range m.Event.Values {
			s += spellInt(v.Num) + spellText(v.Str)
		}
		s += spellText(m.Event.Payload)
	}
	return s
}

// wantCheck: the code of the first of the chapter's sentences on Check that is true of a message.
func wantCheck(m msg.Msg) api.Code {
	graft, prune, route, down, confirm := m.Kind == 1, m.Kind == 2, m.Kind == 3, m.Kind == 4, m.Kind == 5
	told := len(m.Event.Values) != 0 || len(m.Event.Payload) != 0
	inRange := m.Pub >= 0 && m.Pub <= 31 && m.Seq >= 1 && m.Seq <= 1073741824 && m.Hops >= 0 && m.Hops <= 65
	for _, c := range []struct {
		is   bool
		code api.Code
	}{
		{len(m.Group) == 0 || len(m.Group) >= 41, api.ErrArg},
		{!graft && (m.Any || len(m.Filters) != 0), api.ErrForm},
		{!route && m.Hops != 0, api.ErrForm},
		{graft && m.Any && len(m.Filters) != 0, api.ErrForm},
		{graft && len(m.Filters) >= 17, api.ErrForm},
		{(graft || prune) && (m.Pub != 0 || m.Seq != 0 || m.Hops != 0 || told), api.ErrForm},
		{confirm && told, api.ErrForm},
		{(confirm || route || down) && !inRange, api.ErrArg},
		{(confirm || route || down) && len(m.Event.Values) >= 5, api.ErrForm},
		{!graft && !prune && !route && !down && !confirm, api.ErrForm},
	} {
		if c.is {
			return c.code
		}
	}
	return api.OK
}

// reading goes through bytes; its first failure is kept.
type reading struct {
	left string
	code api.Code
}

func (r *reading) fail(c api.Code) {
	if r.code == api.OK {
		r.code = c
	}
}

func (r *reading) number() uint64 {
	var n uint64
	for i := 0; r.code == api.OK; i++ {
		if r.left == "" {
			r.fail(api.ErrEnd)
			break
		}
		b := uint64(r.left[0])
		if i == 9 && b > 1 || i > 0 && b == 0 {
			r.fail(api.ErrForm)
			break
		}
		r.left = r.left[1:]
		n += b % 128 << (7 * i)
		if b < 128 {
			return n
		}
	}
	return 0
}

func (r *reading) int() int {
	n := r.number()
	if n%2 == 1 {
		return -int(n/2) - 1
	}
	return int(n / 2)
}

func (r *reading) text(most uint64) string {
	n := r.number()
	if n > most {
		r.fail(api.ErrArg)
	} else if n > uint64(len(r.left)) {
		r.fail(api.ErrEnd)
	}
	if r.code != api.OK {
		return ""
	}
	s := r.left[:n]
	r.left = r.left[n:]
	return s
}

// wantRead: the message of bytes, or the code of the first thing that is wrong with them.
func wantRead(s string) (msg.Msg, api.Code) {
	if len(s) > 1970 {
		return msg.Msg{}, api.ErrFull
	}
	r := &reading{left: s}
	var m msg.Msg
	m.Kind = r.int()
	m.Group = r.text(40)
	if m.Kind == 1 {
		n := r.int()
		if n < -1 || n > 16 {
			r.fail(api.ErrForm)
		}
		m.Any = n == -1
		for i := 0; i < n && r.code == api.OK; i++ {
			m.Filters = append(m.Filters, r.text(1970))
		}
	}
	if m.Kind >= 3 && m.Kind <= 5 {
		m.Pub = r.int()
		m.Seq = r.int()
	}
	if m.Kind == 3 || m.Kind == 4 {
		m.Hops = r.int()
		n := r.int()
		if n < 0 || n > 4 {
			r.fail(api.ErrArg)
		}
		for i := 0; i < n && r.code == api.OK; i++ {
			m.Event.Values = append(m.Event.Values, value.Value{Num: r.int(), Str: r.text(1970)})
		}
		m.Event.Payload = r.text(1970)
	}
	if r.left != "" {
		r.fail(api.ErrForm)
	}
	if r.code == api.OK {
		r.code = wantCheck(m)
	}
	if r.code != api.OK {
		return msg.Msg{}, r.code
	}
	return m, api.OK
}

// told: a message as one text; a nil list is as an empty one.
func told(m msg.Msg) string {
	return fmt.Sprintf("%d %q %v %q %d %d %d %d %q %q", m.Kind, m.Group, m.Any, append([]string{}, m.Filters...), m.Pub, m.Seq, m.Hops, len(m.Event.Values), fmt.Sprint(m.Event.Values), m.Event.Payload)
}

const zero = `0 "" false [] 0 0 0 0 "[]" ""`

// expectRead asks for what the chapter says of bytes, and returns the code.
func expectRead(t *testing.T, what, s string) api.Code {
	t.Helper()
	want, code := wantRead(s)
	got, err := msg.Read(s)
	if api.Of(err) != code || told(got) != told(want) {
		t.Fatalf("%s: Read(%.60x) = %.200s, %v; not %.200s, %v", what, s, told(got), err, told(want), code)
	}
	if code != api.OK {
		if told(got) != zero {
			t.Fatalf("%s: Read(%.60x) = %.200s beside %v", what, s, told(got), err)
		}
		return code
	}
	// There is one spelling: what is read is spelled just so.
	if again, err := msg.Bytes(got); again != s || err != nil {
		t.Fatalf("%s: Bytes(Read(%.60x)) = %.60x, %v", what, s, again, err)
	}
	return code
}

// expectBytes asks for what the chapter says of a message, by all three calls, and returns the code of Bytes.
func expectBytes(t *testing.T, what string, m msg.Msg) api.Code {
	t.Helper()
	code := wantCheck(m)
	if err := msg.Check(m); api.Of(err) != code || (err == nil) != (code == api.OK) {
		t.Fatalf("%s: Check(%.200s): %v, not %v", what, told(m), err, code)
	}
	want := ""
	if code == api.OK {
		want = spelled(m)
		if len(want) > 1970 {
			want, code = "", api.ErrFull
		}
	}
	s, err := msg.Bytes(m)
	if s != want || api.Of(err) != code {
		t.Fatalf("%s: Bytes(%.200s) = %.60x, %v; not %.60x, %v", what, told(m), s, err, want, code)
	}
	if code == api.OK {
		if again, err := msg.Read(s); told(again) != told(m) || err != nil {
			t.Fatalf("%s: Read(Bytes(%.200s)) = %.200s, %v", what, told(m), told(again), err)
		}
	}
	return code
}

func values(n int) []value.Value {
	return []value.Value{{Num: -5}, {Str: "ab"}, {Num: math.MaxInt, Str: "\xff"}, {Num: math.MinInt}, {}, {Num: 1}}[:n]
}

func texts(n int) []string {
	var l []string
	for i := range n {
		l = append(l, strings.Repeat("f", i%3))
	}
	return l
}
