package filter_test

import (
	"errors"
	"fmt"
	"math/rand"
	"regexp"
	"slices"
	"strconv"
	"strings"
	"testing"

	"wigwag/api"
	"wigwag/filter"
	"wigwag/value"
)

func in(name string, lo, hi int) value.Pred {
	return value.Pred{Name: name, Op: value.In, Lo: lo, Hi: hi}
}

func eq(name, s string) value.Pred { return value.Pred{Name: name, Op: value.Eq, Str: s} }

func prefix(name, s string) value.Pred { return value.Pred{Name: name, Op: value.Prefix, Str: s} }

// expectFilter asks what Parse answers of a text of the language.
func expectFilter(t *testing.T, s string, want ...value.Pred) {
	t.Helper()
	if f, err := filter.Parse(s); err != nil || !slices.Equal(f, want) {
		t.Errorf("Parse(%q) = %v, %v; not %v", s, f, err, want)
	}
}

// expectFault asks for no filter, a code, and the place that the outermost Fault tells.
func expectFault(t *testing.T, what string, f value.Filter, err error, code api.Code, at int) {
	t.Helper()
	var x *api.Fault
	if f != nil || !errors.Is(err, code) || api.Of(err) != code || !errors.As(err, &x) {
		t.Errorf("%s: %v, %v; not %v in a Fault", what, f, err, code)
	} else if x.At != at || err.Error() == "" {
		t.Errorf("%s: At %d, not %d", what, x.At, at)
	}
}

// expectNone asks for ErrParse at a place.
func expectNone(t *testing.T, s string, at int) {
	t.Helper()
	f, err := filter.Parse(s)
	expectFault(t, fmt.Sprintf("Parse(%q)", s), f, err, api.ErrParse, at)
}

// P6.1: the chapter's examples.
func TestExamples(t *testing.T) {
	expectFilter(t, `price in 3..9 and tag ^= "a"`, in("price", 3, 9), prefix("tag", "a"))
	expectNone(t, "price", 5)
	expectNone(t, `tag = "a`, 8)
	expectNone(t, "price in 03..9", 9)
	expectNone(t, "price in", 8)
	expectFilter(t, "price in 9..3", in("price", 9, 3))
}

// P6.1: what is of the language, though no schema may have it.
func TestParse(t *testing.T) {
	for s, want := range map[string]value.Filter{
		"a in 0..0": {in("a", 0, 0)}, "a in -1..1": {in("a", -1, 1)}, "a in 5..-5": {in("a", 5, -5)}, "a in -9..-10": {in("a", -9, -10)},
		"a in 9999999999..-9999999999": {in("a", 9999999999, -9999999999)}, "a in 1000000000..-1000000000": {in("a", 1000000000, -1000000000)}, "a in -2147483648..2147483648": {in("a", -1<<31, 1<<31)},
		`a = ""`: {eq("a", "")}, `a ^= ""`: {prefix("a", "")}, `a = "x"`: {eq("a", "x")}, `a ^= " ~"`: {prefix("a", " ~")}, `a = "\\\""`: {eq("a", `\"`)}, `a ^= "\"\\x\""`: {prefix("a", `"\x"`)},
		`a = "and"`: {eq("a", "and")}, `a = " and b = "`: {eq("a", " and b = ")}, `a = "1..2"`: {eq("a", "1..2")},
		"in in 1..2": {in("in", 1, 2)}, `and = "x" and and ^= "y"`: {eq("and", "x"), prefix("and", "y")}, "and in 1..2 and in in 3..4": {in("and", 1, 2), in("in", 3, 4)}, `in="x"`: {eq("in", "x")},
		"a1b2 in 1..2": {in("a1b2", 1, 2)}, "abcdefghijklmnopqrstuvwxyz0123456789 in 1..2": {in("abcdefghijklmnopqrstuvwxyz0123456789", 1, 2)}, "inn in 1..2": {in("inn", 1, 2)}, "andy in 1..2 and in1 in 1..2": {in("andy", 1, 2), in("in1", 1, 2)},
		"a in 1..2 and a in 1..2": {in("a", 1, 2), in("a", 1, 2)}, `a="1"and b="2"and c in 3..4and d^="5"and e in 6..7`: {eq("a", "1"), eq("b", "2"), in("c", 3, 4), prefix("d", "5"), in("e", 6, 7)},
	} {
		expectFilter(t, s, want...)
	}
	long := strings.Repeat("x", 200)
	expectFilter(t, `a = "`+long+`"`, eq("a", long))
	expectFilter(t, long+" in 1..2", in(long, 1, 2))
}

// P6.1: blanks in each place where they may stand, and no need of them but between two words.
func TestBlanks(t *testing.T) {
	want := value.Filter{in("price", -3, 9), prefix("tag", "a b"), eq("n2", "")}
	parts := []string{"price", "in", "-3", "..", "9", "and", "tag", "^=", `"a b"`, "and", "n2", "=", `""`, ""}
	for _, blanks := range []string{" ", "  ", "     "} {
		expectFilter(t, strings.Join(parts, blanks), want...)
		expectFilter(t, blanks+strings.Join(parts, blanks), want...)
	}
	expectFilter(t, `price in-3..9and tag^="a b"and n2=""`, want...)
	for i := range parts {
		row := slices.Clone(parts)
		row[i] = "    " + row[i]
		expectFilter(t, strings.Join(row, " "), want...)
	}
	for _, other := range []string{"\t", "\n", "\r", "\x00", "\x1f", "!", "\xa0"} {
		row := slices.Clone(parts)
		at := 0
		for i := range row {
			row[i] = other + row[i]
			expectNone(t, strings.Join(row, " "), at)
			row[i] = parts[i]
			at += len(parts[i]) + 1
		}
	}
}

// P6.1: where it can't go on.
func TestParseFaults(t *testing.T) {
	for _, c := range []struct {
		s  string
		at int
	}{
		{"", 0}, {" ", 1}, {"   ", 3}, {"1", 0}, {"  A in 1..2", 2}, {"1a in 1..2", 0}, {"_", 0}, {"-a", 0}, {`"a"`, 0}, {"=", 0}, {"..", 0}, {"\xff", 0}, {"\x00", 0}, {"äh in 1..2", 0},
		{"price", 5}, {"price  ", 7}, {"a_b in 1..2", 1}, {"aB in 1..2", 1}, {"a 1..2", 2}, {"a..", 1}, {"a -", 2}, {`a "x"`, 2}, {"a ~= 1", 2},
		{"a on 1..2", 2}, {"a i", 2}, {"a inn 1..2", 2}, {"a in1..2", 2}, {"ain 1..2", 4}, {"a  and", 3}, {"a and b", 2}, {"a IN 1..2", 2}, {"a iN 1..2", 2}, {"a in", 4}, {"a in ", 5}, {"a inand", 2}, {"in 1..2", 3}, {"a b in 1..2", 2},
		{"a in x", 5}, {"a in   x", 7}, {"a in ..2", 5}, {"a in +1..2", 5}, {"a in -..2", 5}, {"a in - 1..2", 5}, {"a in --1..2", 5}, {"a in -", 5}, {"a in -a", 5}, {`a in "1"`, 5}, {"a in =", 5},
		{"a in 03..9", 5}, {"a in 00..9", 5}, {"a in -0..9", 5}, {"a in -03..9", 5}, {"a in 0..09", 8}, {"a in 0..00", 8}, {"a in 1..-0", 8}, {"a in 1..-", 8}, {"a in 1..- 1", 8}, {"a in 00000000000..1", 5}, {"a in -00..1", 5},
		{"a in 12345678901..2", 5}, {"a in -12345678901..2", 5}, {"a in 1..  12345678901", 10}, {"a in 1..-10000000000", 8}, {"a in 99999999999999999999999999999..2", 5}, {"a in 1..99999999999999999999999999999", 8},
		{"a in 1", 6}, {"a in 1 ", 7}, {"a in 1.2", 6}, {"a in 1.", 6}, {"a in 1 . .2", 7}, {"a in 1. .2", 6}, {"a in 1 2", 7}, {"a in 1x..2", 6}, {"a in 1-2", 6}, {"a in 0x1..2", 6}, {"a in 1_0..2", 6}, {"a in 1=", 6},
		{"a in 1..", 8}, {"a in 1..  ", 10}, {"a in 1...2", 8}, {"a in 1..x", 8}, {"a in 1..+2", 8}, {"a in 1.. and", 9},
		{"a in 1..2 or", 10}, {"a in 1..2 an", 10}, {"a in 1..2 andy in 1..2", 10}, {"a in 1..2 3", 10}, {"a in 1..2..3", 9}, {"a in 1..2 b", 10}, {"a in 1..2-", 9}, {"a in 1..2,", 9}, {"a in 1..2andb in 1..2", 9}, {"a in 1..2 AND b in 1..2", 10}, {"a in 1..2 and1 in 1..2", 10},
		{"a in 1..2 and", 13}, {"a in 1..2 and  ", 15}, {"a in 1..2 and 1", 14}, {"a in 1..2 and and", 17}, {"a in 1..2 and in 1..2", 17}, {"a in 1..2 and b", 15}, {"a in 1..2 and b in 1..", 22}, {"a in 1..2 and and b in 1..2", 18},
		{"a =", 3}, {"a =  ", 5}, {"a = x", 4}, {"a == \"x\"", 3}, {"a = = \"x\"", 4}, {"a = 'x'", 4}, {"a = \\\"", 4}, {"a=", 2}, {"a=1", 2},
		{"a ^", 2}, {"a ^ = \"x\"", 2}, {"a ^\"x\"", 2}, {"a =^ \"x\"", 3}, {"a ^=", 4}, {"a ^=  ", 6}, {"a ^= x", 5}, {"a ^^= \"x\"", 2}, {"a^", 1},
		{`a = "`, 5}, {`a = "xyz`, 8}, {`a = "x  `, 8}, {`a = "\`, 6}, {`a = "\"`, 7}, {`a = "\\`, 7}, {`a = "\\\"`, 9}, {`a = "x\`, 7}, {`a ^= "`, 6}, {`a ^= "\"`, 8},
		{"a = \"\n\"", 5}, {"a = \"x\x1f\"", 6}, {"a = \"\x7f\"", 5}, {"a = \"xy\xff\"", 7}, {"a = \"\x00\"", 5}, {"a = \"\u00e4\"", 5}, {"a = \"\x80", 5},
		{`a = "\n"`, 6}, {`a = "\a"`, 6}, {`a = "\ "`, 6}, {`a = "x\/"`, 7}, {"a = \"\\\n\"", 6}, {"a = \"\\\xff\"", 6}, {`a = "\\\x"`, 8}, {`a = "\0`, 6},
		{`a = "x"y`, 7}, {`a = "x""y"`, 7}, {`a = "x" "y"`, 8}, {`a = "x"\`, 7}, {`a = "x" and`, 11}, {`a = "x" or b = "y"`, 8}, {`a = "x"andb = "y"`, 7}, {`a = "x" =`, 8},
	} {
		expectNone(t, c.s, c.at)
	}
}

// P6.1: at most 300 bytes, whatever they are.
func TestLength(t *testing.T) {
	const ahead = `a = "x"`
	expectFilter(t, ahead+strings.Repeat(" ", 300-len(ahead)), eq("a", "x"))
	expectNone(t, strings.Repeat(" ", 300), 300)
	expectNone(t, strings.Repeat("a", 300), 300)
	expectNone(t, strings.Repeat("\x00", 300), 0)
	var full value.Filter
	for range 299/10 + 1 {
		full = append(full, eq("a", ""))
	}
	expectFilter(t, strings.Repeat(`a=""  and `, 29)+`a=""      `, full...)
	for _, s := range []string{ahead + strings.Repeat(" ", 301-len(ahead)), strings.Repeat(" ", 301), strings.Repeat("\x00", 301), strings.Repeat("a", 5000), strings.Repeat(`a="" and `, 100)} {
		f, err := filter.Parse(s)
		expectFault(t, fmt.Sprintf("Parse of %d bytes", len(s)), f, err, api.ErrArg, 0)
	}
}

// The language once more, by forms of whole texts and of what stands at a place.

const (
	wordForm   = `[a-z][a-z0-9]*\b`
	numberForm = `(?:0|-?[1-9][0-9]{0,9})`
	bytesForm  = `(?:[ !#-\[\]-~]|\\["\\])*`
	predForm   = ` *` + wordForm + ` *(?:in\b *` + numberForm + ` *\.\. *` + numberForm + `|\^?= *"` + bytesForm + `")`
)

var (
	whole    = regexp.MustCompile(`\A` + predForm + `(?: *and\b` + predForm + `)* *\z`)
	blanks   = regexp.MustCompile(`\A *`)
	word     = regexp.MustCompile(`\A[a-z][a-z0-9]*`)
	digits   = regexp.MustCompile(`\A-?[0-9]*`)
	number   = regexp.MustCompile(`\A` + numberForm + `\z`)
	unended  = regexp.MustCompile(`\A"` + bytesForm + `\\?`)
	wordTail = regexp.MustCompile(`\A[a-z0-9]`)
)

// model goes through a text by the forms; lost is told once it can't go on.
type model struct {
	text string
	at   int
	lost bool
}

func (m *model) rest() string {
	if !m.lost {
		m.at += len(blanks.FindString(m.text[m.at:]))
	}
	return m.text[m.at:]
}

func (m *model) step(n int, ok bool) {
	m.lost = m.lost || !ok
	if !m.lost {
		m.at += n
	}
}

func (m *model) mark(s string) { m.step(len(s), strings.HasPrefix(m.rest(), s)) }

func (m *model) name() string {
	s := word.FindString(m.rest())
	m.step(len(s), s != "")
	return s
}

func (m *model) theWord(s string) {
	tail, ok := strings.CutPrefix(m.rest(), s)
	m.step(len(s), ok && !wordTail.MatchString(tail))
}

func (m *model) number() int {
	s := digits.FindString(m.rest())
	m.step(len(s), number.MatchString(s))
	n, _ := strconv.Atoi(s)
	return n
}

func (m *model) str() string {
	s := unended.FindString(m.rest())
	m.step(len(s), s != "")
	m.step(1, m.lost || strings.HasPrefix(m.text[m.at:], `"`))
	return strings.NewReplacer(`\\`, `\`, `\"`, `"`).Replace(strings.TrimPrefix(s, `"`))
}

func (m *model) pred() value.Pred {
	p := value.Pred{Name: m.name()}
	switch rest := m.rest(); {
	case strings.HasPrefix(rest, "="):
		p.Op = value.Eq
		m.mark("=")
		p.Str = m.str()
	case strings.HasPrefix(rest, "^"):
		p.Op = value.Prefix
		m.mark("^=")
		p.Str = m.str()
	default:
		p.Op = value.In
		m.theWord("in")
		p.Lo = m.number()
		m.mark("..")
		p.Hi = m.number()
	}
	return p
}

// modelled: the filter of a text, or the place at which it can't go on.
func modelled(s string) (value.Filter, int, bool) {
	m := &model{text: s}
	f := value.Filter{m.pred()}
	for m.rest() != "" && !m.lost {
		m.theWord("and")
		f = append(f, m.pred())
	}
	return f, m.at, !m.lost
}

// oneOf: any of these.
func oneOf[T any](r *rand.Rand, l ...T) T { return l[r.Intn(len(l))] }

// somePiece: what a filter's text is made of, and what it isn't.
func somePiece(r *rand.Rand) string {
	return oneOf(r, "a", "b1", "in", "and", "=", "^=", "..", "0", "1", "-1", "03", "-0", "1234567890", "12345678901", `"`, `""`, `"x"`, `"a\"b\\"`, `\`, `"\n"`, " ", "  ", "-", "^", ".", "A", "\n", "\x7f", "x in 1..2", `x ^= "y"`, " and ")
}

func someText(r *rand.Rand) string {
	return oneOf(r, `"x"`, `""`, `"\\"`, `"\""`, `" and "`, `"in 1..2"`, `"~ x"`)
}

func someNumber(r *rand.Rand) string {
	return oneOf(r, "0", "1", "-1", "10", "9999999999", "-9999999999", "2147483648")
}

// somePred: a text of one, with some blanks.
func somePred(r *rand.Rand) string {
	gap := func() string { return strings.Repeat(" ", r.Intn(3)) }
	name := oneOf(r, "a", "b", "price", "in", "and", "x9")
	switch r.Intn(3) {
	case 0:
		return gap() + name + " " + gap() + "in" + gap() + " " + someNumber(r) + gap() + ".." + gap() + someNumber(r) + gap()
	case 1:
		return gap() + name + gap() + "=" + gap() + someText(r) + gap()
	}
	return gap() + name + gap() + "^=" + gap() + someText(r) + gap()
}

func someWhole(r *rand.Rand) string {
	s := somePred(r)
	for range r.Intn(4) {
		s += "and " + somePred(r)
	}
	return s
}

// edited: a text of which one byte is another one, is wanting, or one is new.
func edited(r *rand.Rand, s string) string {
	at := r.Intn(len(s))
	b := oneOf(r, "a", "n", "0", "7", "-", " ", ".", "=", "^", `"`, `\`, "\n", "\x7f", "\xff", "Z")
	switch r.Intn(4) {
	case 0:
		return s[:at] + s[at+1:]
	case 1:
		return s[:at] + b + s[at:]
	case 2:
		return s[:at]
	}
	return s[:at] + b + s[at+1:]
}

func randomText(r *rand.Rand) string {
	switch r.Intn(4) {
	case 0:
		return someWhole(r)
	case 1, 2:
		return edited(r, someWhole(r))
	}
	s := ""
	for range r.Intn(12) {
		s += somePiece(r)
	}
	return s
}

// P6.1: many texts, told by the forms; what is answered is of the language just where the whole text is.
func TestManyTexts(t *testing.T) {
	r := rand.New(rand.NewSource(61))
	got, none := 0, map[int]int{}
	for range 150000 {
		s := randomText(r)
		if len(s) > filter.MaxBytes {
			continue
		}
		want, at, ok := modelled(s)
		if ok != whole.MatchString(s) {
			t.Fatalf("the forms disagree on %q", s)
		}
		if ok {
			got++
			expectFilter(t, s, want...)
		} else {
			none[at]++
			expectNone(t, s, at)
		}
		if t.Failed() {
			return
		}
	}
	if got < 30000 || len(none) < 60 {
		t.Errorf("%d texts are filters, others end at %d places", got, len(none))
	}
}

// P6.1: of all short texts of some telling bytes.
func TestAllShortTexts(t *testing.T) {
	row := []string{"", `a="`, "a in 1", "a in 1..", `a^="\`}
	for range 4 {
		var longer []string
		for _, s := range row {
			for _, b := range []string{"a", "0", "1", "-", ".", " ", `"`, `\`, "=", "^", "\x1f"} {
				longer = append(longer, s+b)
			}
		}
		for _, s := range longer {
			if want, at, ok := modelled(s); ok {
				expectFilter(t, s, want...)
			} else {
				expectNone(t, s, at)
			}
		}
		row = longer
	}
}

// P6.1: each byte in each kind of place.
func TestEachByte(t *testing.T) {
	for b := range 256 {
		x := string([]byte{byte(b)})
		for _, s := range []string{
			x + " in 1..2", "a" + x + " in 1..2", "a " + x + "in 1..2", "a i" + x + " 1..2", "a in" + x + "1..2", "a in " + x + "..2", "a in 1" + x + "..2", "a in 1." + x + "2", "a in 1.." + x + "2",
			"a in 1..2" + x, "a in 1..2 " + x + "and b in 1..2", "a in 1..2 and" + x + "b in 1..2", "a " + x + "= \"\"", "a ^" + x + "\"\"", "a = " + x + "\"", "a = \"" + x + "\"", "a = \"\\" + x + "\"",
		} {
			if want, at, ok := modelled(s); ok {
				expectFilter(t, s, want...)
			} else {
				expectNone(t, s, at)
			}
		}
	}
}

// P6.2
func TestPrint(t *testing.T) {
	for _, c := range []struct {
		f    value.Filter
		want string
	}{
		{value.Filter{in("price", 3, 9), prefix("tag", "a")}, `price in 3..9 and tag ^= "a"`},
		{value.Filter{in("a", 0, 0)}, "a in 0..0"}, {value.Filter{in("a", -5, -1)}, "a in -5..-1"}, {value.Filter{in("a", -1<<31, 1<<31)}, "a in -2147483648..2147483648"},
		{value.Filter{eq("b", "")}, `b = ""`}, {value.Filter{eq("b", `\`)}, `b = "\\"`}, {value.Filter{eq("b", `"`)}, `b = "\""`}, {value.Filter{prefix("b", `x"\" y\\`)}, `b ^= "x\"\\\" y\\\\"`},
		{value.Filter{eq("b", " and ")}, `b = " and "`}, {value.Filter{prefix("b", " ~")}, `b ^= " ~"`},
		{value.Filter{eq("b", "x"), in("a", 1, 2), prefix("d", "y"), eq("c", "z")}, `b = "x" and a in 1..2 and d ^= "y" and c = "z"`},
		{nil, ""}, {value.Filter{}, ""},
	} {
		if got := filter.Print(c.f); got != c.want {
			t.Errorf("Print(%v) = %s, not %s", c.f, got, c.want)
		}
	}
}

// schema has an attribute of each kind twice, with the longest name and the widest range.
func schema() value.Schema {
	return value.Schema{
		{Name: "price", Kind: value.Int, Min: -99, Max: 99}, {Name: "tag", Kind: value.Text},
		{Name: "abcdefghijk0", Kind: value.Int, Min: -value.Most, Max: value.Most}, {Name: "t2", Kind: value.Text},
	}
}

// someFilter: one of schema's; its texts have bytes that need a \ ahead.
func someFilter(r *rand.Rand) value.Filter {
	var f value.Filter
	for _, i := range r.Perm(4)[:1+r.Intn(4)] {
		a := schema()[i]
		if a.Kind == value.Int {
			lo := a.Min + r.Intn(a.Max-a.Min+1)
			f = append(f, in(a.Name, oneOf(r, a.Min, lo), oneOf(r, a.Max, lo)))
			continue
		}
		var b []byte
		for range r.Intn(value.MaxStr + 1) {
			b = append(b, oneOf(r, '"', '\\', ' ', '~', byte(32+r.Intn(95))))
		}
		if len(b) > 0 && r.Intn(2) == 0 {
			f = append(f, prefix(a.Name, string(b)))
		} else {
			f = append(f, eq(a.Name, string(b)))
		}
	}
	return f
}

// P6.2: a filter that was printed is read as it was, and printed again it is the same; so is a text that was parsed.
func TestPrintAndParse(t *testing.T) {
	r := rand.New(rand.NewSource(62))
	for range 20000 {
		f := someFilter(r)
		if err := schema().Filter(f); err != nil {
			t.Fatalf("%v is no filter: %v", f, err)
		}
		s := filter.Print(f)
		expectFilter(t, s, f...)
		got, err := filter.Read(schema(), s)
		if err != nil || !slices.Equal(got, f) || filter.Print(got) != s {
			t.Fatalf("%s is read as %v, %v", s, got, err)
		}
	}
	for range 20000 {
		s := someWhole(r)
		f, err := filter.Parse(s)
		if err != nil {
			t.Fatalf("Parse(%q): %v", s, err)
		}
		expectFilter(t, filter.Print(f), f...)
	}
}

// P6.2: each byte of a text, and each operation.
func TestPrintEachByte(t *testing.T) {
	for b := 32; b <= 126; b++ {
		s := string([]byte{byte(b)})
		for _, x := range []string{s, s + s, "x" + s, s + "x", `\` + s, s + `\`, `"` + s, s + `"`} {
			for _, p := range []value.Pred{eq("tag", x), prefix("tag", x)} {
				expectFilter(t, filter.Print(value.Filter{p}), p)
			}
		}
	}
}

// P6.2, P6.1: four texts of which each byte needs a \ ahead are longer as a text than Parse reads.
func TestPrintOfTheLongest(t *testing.T) {
	var f value.Filter
	for i := range 4 {
		f = append(f, prefix("abcdefghijk"+strconv.Itoa(i), strings.Repeat(`\`, value.MaxStr)))
	}
	s := filter.Print(f)
	if len(s) != 407 {
		t.Errorf("Print has %d bytes", len(s))
	}
	got, err := filter.Parse(s)
	expectFault(t, "Parse of what is too long", got, err, api.ErrArg, 0)
	expectFilter(t, filter.Print(f[:2]), f[:2]...)
}

// K7: filters that are no schema's are printed somehow.
func TestPrintOfAny(t *testing.T) {
	r := rand.New(rand.NewSource(63))
	for range 2000 {
		var f value.Filter
		for range r.Intn(9) {
			b := make([]byte, r.Intn(60))
			r.Read(b)
			f = append(f, value.Pred{Name: string(b[:len(b)/2]), Op: r.Intn(7) - 1, Lo: int(r.Uint64()), Hi: int(r.Uint64()), Str: string(b)})
		}
		if filter.Print(f) != filter.Print(f) {
			t.Fatal("Print isn't the same again")
		}
	}
}

// P6.1, K7: any bytes.
func TestParseOfAny(t *testing.T) {
	r := rand.New(rand.NewSource(64))
	for range 20000 {
		b := make([]byte, r.Intn(310))
		r.Read(b)
		f, err := filter.Parse(string(b))
		var x *api.Fault
		if f != nil || !errors.As(err, &x) || x.At < 0 || x.At > len(b) {
			t.Fatalf("Parse(%q) = %v, %v", b, f, err)
		}
	}
}

// P6.3
func TestRead(t *testing.T) {
	s := schema()
	for text, want := range map[string]value.Filter{
		"price in 3..99": {in("price", 3, 99)}, " tag=\"\"": {eq("tag", "")}, "price in -99..-99 and tag ^= \"a\"": {in("price", -99, -99), prefix("tag", "a")},
		"abcdefghijk0 in -2147483648..2147483648":                           {in("abcdefghijk0", -value.Most, value.Most)},
		`t2 = "x" and tag = "y" and abcdefghijk0 in 1..1 and price in 2..2`: {eq("t2", "x"), eq("tag", "y"), in("abcdefghijk0", 1, 1), in("price", 2, 2)},
		`tag = "` + strings.Repeat("x", 40) + `"`:                           {eq("tag", strings.Repeat("x", 40))},
	} {
		if f, err := filter.Read(s, text); err != nil || !slices.Equal(f, want) {
			t.Errorf("Read(%q) = %v, %v; not %v", text, f, err, want)
		}
	}
	for text, at := range map[string]int{"": 0, "price": 5, "price in 03..9": 9, `tag = "a`: 8, "price in 1..2 and": 17, "nobody in": 9} {
		f, err := filter.Read(s, text)
		expectFault(t, fmt.Sprintf("Read(%q)", text), f, err, api.ErrParse, at)
	}
	f, err := filter.Read(s, strings.Repeat(" ", 301))
	expectFault(t, "Read of 301 bytes", f, err, api.ErrArg, 0)
}

// P6.3: what is of the language, but not of the schema: the schema's error, wrapped once more.
func TestReadWhatTheSchemaRefuses(t *testing.T) {
	for text, at := range map[string]int{
		"price in 3..100": 0, "price in -100..3": 0, "price in 9..3": 0, "nobody in 1..2": 0, `price = "x"`: 0, "tag in 1..2": 0, `tag ^= ""`: 0, "abcdefghijk0 in 1..9999999999": 0,
		"price in 1..2 and price in 1..2": 1, `tag = "x" and price ^= "x"`: 1, `t2 = "" and tag = "x" and t2 = ""`: 2, `tag = "` + strings.Repeat("x", 41) + `"`: 0, "in in 1..2": 0,
		`t2 = "" and tag = "" and price in 0..0 and abcdefghijk0 in 1..0`: 3, `t2 = "" and tag = "" and price in 0..0 and abcdefghijk0 in 0..0 and x in 0..0`: 0,
	} {
		f, err := filter.Read(schema(), text)
		expectFault(t, fmt.Sprintf("Read(%q)", text), f, err, api.ErrSchema, 0)
		expectFault(t, fmt.Sprintf("Read(%q), inside", text), nil, errors.Unwrap(err), api.ErrSchema, at)
	}
	for _, s := range []value.Schema{nil, {}, {{Name: "a", Kind: 3}}} {
		f, err := filter.Read(s, "a in 1..2")
		expectFault(t, "Read by no schema", f, err, api.ErrSchema, 0)
	}
}

// P6.3: many texts: what is answered is a filter of the schema, and is what Parse tells.
func TestReadMany(t *testing.T) {
	r := rand.New(rand.NewSource(65))
	s := value.Schema{{Name: "a", Kind: value.Int, Min: -1, Max: 10}, {Name: "b", Kind: value.Text}, {Name: "price", Kind: value.Int, Min: -value.Most, Max: value.Most}, {Name: "x9", Kind: value.Text}}
	counts := map[api.Code]int{}
	for range 60000 {
		text := randomText(r)
		f, err := filter.Read(s, text)
		g, asked := filter.Parse(text)
		counts[api.Of(err)]++
		switch {
		case asked != nil:
			var x *api.Fault
			errors.As(asked, &x)
			expectFault(t, fmt.Sprintf("Read(%q)", text), f, err, api.Of(asked), x.At)
		case s.Filter(g) != nil:
			expectFault(t, fmt.Sprintf("Read(%q)", text), f, err, api.ErrSchema, 0)
		case err != nil || !slices.Equal(f, g) || s.Filter(f) != nil:
			t.Errorf("Read(%q) = %v, %v", text, f, err)
		}
		if t.Failed() {
			return
		}
	}
	if counts[api.OK] < 1000 || counts[api.ErrSchema] < 1000 || counts[api.ErrParse] < 1000 {
		t.Errorf("codes: %v", counts)
	}
}

// K3: what is handed in stays as it is, with the room behind it; answers are the caller's alone.
func TestNothingIsShared(t *testing.T) {
	f := append(make(value.Filter, 0, 3), in("price", 1, 2), eq("tag", `\`))
	f[:3][2] = in("spare", 3, 4)
	filter.Print(f)
	if !slices.Equal(f[:3], value.Filter{in("price", 1, 2), eq("tag", `\`), in("spare", 3, 4)}) {
		t.Errorf("Print changed %v", f[:3])
	}
	s := append(schema()[:1:1], schema()[1:]...)[:2]
	for range 2 {
		got, err := filter.Read(s, `price in 1..2 and tag = "\\"`)
		if err != nil || !slices.Equal(got, f) {
			t.Fatalf("Read: %v, %v", got, err)
		}
		got[0], got[1] = eq("x", "y"), eq("z", "")
		_ = append(got, eq("w", ""))
	}
	if !slices.Equal(s[:4], schema()) {
		t.Errorf("Read changed %v", s[:4])
	}
	for range 2 {
		for text, code := range map[string]api.Code{"price in 03..9": api.ErrParse, strings.Repeat(" ", 301): api.ErrArg, "price in 9..3": api.ErrSchema} {
			got, err := filter.Read(s, text)
			at := map[api.Code]int{api.ErrParse: 9}[code]
			expectFault(t, "an error once more", got, err, code, at)
			for x := (*api.Fault)(nil); errors.As(err, &x); {
				err = x.Err
				x.At, x.Err = 77, api.ErrHops
			}
		}
	}
}
