package code_test

import (
	"errors"
	"math"
	"math/big"
	"strings"
	"testing"

	"wigwag/api"
	"wigwag/code"
)

// numbers lie around each border at which a byte more is asked for, and at both ends.
func numbers() []uint64 {
	l := []uint64{0, 1, 2, 100, 300, 1000, math.MaxUint64, math.MaxUint64 - 1}
	for bits := 1; bits < 64; bits++ {
		l = append(l, 1<<bits-1, 1<<bits, 1<<bits+1)
	}
	return l
}

// ints lie at both ends and on both sides of 0, as far out as ints go.
func ints() []int {
	l := []int{0, 1, -1, math.MaxInt, math.MaxInt - 1, math.MinInt, math.MinInt + 1}
	for bits := 1; bits < 63; bits++ {
		n := 1 << bits
		l = append(l, n-1, n, n+1, -n+1, -n, -n-1)
	}
	return l
}

// spelled: a number's bytes, worked out by division.
func spelled(n *big.Int) string {
	var b []byte
	rest, seven := new(big.Int).Set(n), big.NewInt(128)
	for {
		digit := new(big.Int)
		rest.DivMod(rest, seven, digit)
		if rest.Sign() == 0 {
			return string(append(b, byte(digit.Int64())))
		}
		b = append(b, byte(digit.Int64())+128)
	}
}

// spelledInt: an int's bytes by the chapter's rule: 2n, or -2n - 1.
func spelledInt(n int) string {
	x := new(big.Int).Mul(big.NewInt(2), big.NewInt(int64(n)))
	if n < 0 {
		x.Neg(x).Sub(x, big.NewInt(1))
	}
	return spelled(x)
}

func writeNumber(n uint64) string {
	var w code.Writer
	w.Number(n)
	return w.Bytes()
}

func writeInt(n int) string {
	var w code.Writer
	w.Int(n)
	return w.Bytes()
}

func writeText(s string) string {
	var w code.Writer
	w.Text(s)
	return w.Bytes()
}

// expect asks what a reader holds: how many bytes were taken, and its error, which it keeps.
func expect(t *testing.T, what string, r *code.Reader, at int, want api.Code) {
	t.Helper()
	err := r.Err()
	if r.At() != at || api.Of(err) != want || (err == nil) != (want == api.OK) {
		t.Errorf("%s: At %d, %v; not At %d, %v", what, r.At(), err, at, want)
	}
	if want == api.OK {
		return
	}
	var f *api.Fault
	if !errors.Is(err, want) || !errors.As(err, &f) || f.At != at || err.Error() == "" {
		t.Errorf("%s: no fault at %d with %v: %v", what, at, want, err)
	}
}

// expectStuck asks that nothing is answered or taken behind a reader's first error, which stays.
func expectStuck(t *testing.T, what string, r *code.Reader, want api.Code) {
	t.Helper()
	at := r.At()
	for range 2 {
		if n := r.Number(); n != 0 {
			t.Errorf("%s: Number behind an error: %d", what, n)
		}
		if n := r.Int(); n != 0 {
			t.Errorf("%s: Int behind an error: %d", what, n)
		}
		if n := r.Below(math.MaxInt) + r.Below(0); n != 0 {
			t.Errorf("%s: Below behind an error: %d", what, n)
		}
		if s := r.Text(math.MaxInt) + r.Text(-1); s != "" {
			t.Errorf("%s: Text behind an error: %q", what, s)
		}
		if err := r.Done(); !errors.Is(err, want) {
			t.Errorf("%s: Done behind an error: %v, not %v", what, err, want)
		}
		expect(t, what+", behind its error", r, at, want)
	}
}

// P2.1
func TestWriteExamples(t *testing.T) {
	var w code.Writer
	if w.Bytes() != "" {
		t.Errorf("the zero Writer has %x", w.Bytes())
	}
	for _, c := range []struct {
		what, got, want string
	}{
		{"Number(0)", writeNumber(0), "\x00"},
		{"Number(127)", writeNumber(127), "\x7f"},
		{"Number(128)", writeNumber(128), "\x80\x01"},
		{"Number(300)", writeNumber(300), "\xac\x02"},
		{"Number(16383)", writeNumber(16383), "\xff\x7f"},
		{"Number(16384)", writeNumber(16384), "\x80\x80\x01"},
		{"Number(2^63)", writeNumber(1 << 63), strings.Repeat("\x80", 9) + "\x01"},
		{"Number(2^64-1)", writeNumber(math.MaxUint64), strings.Repeat("\xff", 9) + "\x01"},
		{"Int(0)", writeInt(0), "\x00"},
		{"Int(-1)", writeInt(-1), "\x01"},
		{"Int(1)", writeInt(1), "\x02"},
		{"Int(-2)", writeInt(-2), "\x03"},
		{"Int(-64)", writeInt(-64), "\x7f"},
		{"Int(64)", writeInt(64), "\x80\x01"},
		{"Int(greatest)", writeInt(math.MaxInt), "\xfe" + strings.Repeat("\xff", 8) + "\x01"},
		{"Int(least)", writeInt(math.MinInt), strings.Repeat("\xff", 9) + "\x01"},
		{"Text()", writeText(""), "\x00"},
		{"Text(ab)", writeText("ab"), "\x02ab"},
		{"Text(00 ff)", writeText("\x00\xff"), "\x02\x00\xff"},
		{"Text of 128", writeText(strings.Repeat("x", 128)), "\x80\x01" + strings.Repeat("x", 128)},
	} {
		if c.got != c.want {
			t.Errorf("%s = %x, not %x", c.what, c.got, c.want)
		}
	}
}

// P2.1
func TestWriteBehindEachOther(t *testing.T) {
	var w code.Writer
	want := ""
	for _, n := range numbers() {
		w.Number(n)
		want += spelled(new(big.Int).SetUint64(n))
		if before := w.Bytes(); before != want || w.Bytes() != before {
			t.Fatalf("Number(%d): %x behind what stood there", n, before)
		}
	}
	for _, n := range ints() {
		w.Int(n)
		want += spelledInt(n)
		if w.Bytes() != want {
			t.Fatalf("Int(%d): %x behind what stood there", n, w.Bytes())
		}
	}
	for n := range 300 {
		s := strings.Repeat("\x80", n)
		w.Text(s)
		want += spelled(big.NewInt(int64(n))) + s
		if w.Bytes() != want {
			t.Fatalf("Text of %d bytes", n)
		}
	}
}

// K3: what was answered doesn't change with what is written later.
func TestBytesStay(t *testing.T) {
	var w code.Writer
	w.Text("abc")
	first := w.Bytes()
	kept := strings.Clone(first)
	w.Number(math.MaxUint64)
	w.Text("def")
	if first != kept || !strings.HasPrefix(w.Bytes(), kept) {
		t.Errorf("%x was %x", first, kept)
	}
}

// P2.2
func TestReadNumber(t *testing.T) {
	nine := strings.Repeat("\xff", 9)
	zeros := strings.Repeat("\x80", 9)
	for _, c := range []struct {
		s    string
		want uint64
		at   int
		code api.Code
	}{
		{"\xac\x02", 300, 2, api.OK}, {"\x00", 0, 1, api.OK}, {"\x00\x00", 0, 1, api.OK}, {"\x7f\xff", 127, 1, api.OK},
		{nine + "\x01", math.MaxUint64, 10, api.OK}, {zeros + "\x01", 1 << 63, 10, api.OK}, {nine + "\x01\x80", math.MaxUint64, 10, api.OK},
		{nine[:8] + "\x7f", 1<<63 - 1, 9, api.OK},
		{"", 0, 0, api.ErrEnd}, {"\x80", 0, 1, api.ErrEnd}, {"\xff\xff", 0, 2, api.ErrEnd}, {nine, 0, 9, api.ErrEnd},
		{"\x80\x00", 0, 1, api.ErrForm}, {"\xff\x00", 0, 1, api.ErrForm}, {"\x80\x80\x00\x01", 0, 2, api.ErrForm},
		{nine + "\x00", 0, 9, api.ErrForm}, {zeros + "\x00", 0, 9, api.ErrForm},
		{nine + "\x02", 0, 9, api.ErrForm}, {zeros + "\x02", 0, 9, api.ErrForm}, {nine + "\x7f", 0, 9, api.ErrForm},
		{zeros + "\x80", 0, 9, api.ErrForm}, {zeros + "\x81", 0, 9, api.ErrForm}, {nine + "\xff\x01", 0, 9, api.ErrForm},
	} {
		r := code.Open(c.s)
		if got := r.Number(); got != c.want {
			t.Errorf("Number of %x: %d, not %d", c.s, got, c.want)
		}
		expect(t, "Number", r, c.at, c.code)
		if c.code != api.OK {
			expectStuck(t, "Number", r, c.code)
		}
	}
}

// P2.2, P2.3: of all numbers, cut short at each place.
func TestReadNumberCutShort(t *testing.T) {
	for _, n := range numbers() {
		s := writeNumber(n)
		for cut := range len(s) {
			r := code.Open(s[:cut])
			if got := r.Number(); got != 0 {
				t.Errorf("Number of %x: %d", s[:cut], got)
			}
			expect(t, "a number cut short", r, cut, api.ErrEnd)
			expectStuck(t, "a number cut short", r, api.ErrEnd)
		}
	}
}

// P2.2
func TestReadInt(t *testing.T) {
	nine := strings.Repeat("\xff", 9)
	for _, c := range []struct {
		s    string
		want int
		at   int
		code api.Code
	}{
		{"\x00", 0, 1, api.OK}, {"\x01", -1, 1, api.OK}, {"\x02", 1, 1, api.OK}, {"\x03", -2, 1, api.OK},
		{nine + "\x01", math.MinInt, 10, api.OK}, {"\xfe" + nine[:8] + "\x01", math.MaxInt, 10, api.OK},
		{"", 0, 0, api.ErrEnd}, {"\x81", 0, 1, api.ErrEnd}, {"\x81\x00", 0, 1, api.ErrForm}, {nine + "\x02", 0, 9, api.ErrForm},
	} {
		r := code.Open(c.s)
		if got := r.Int(); got != c.want {
			t.Errorf("Int of %x: %d, not %d", c.s, got, c.want)
		}
		expect(t, "Int", r, c.at, c.code)
		if c.code != api.OK {
			expectStuck(t, "Int", r, c.code)
		}
	}
}

// P2.2
func TestReadBelow(t *testing.T) {
	for _, c := range []struct {
		s    string
		most int
		want int
		at   int
		code api.Code
	}{
		{writeInt(0), 1, 0, 1, api.OK}, {writeInt(4), 5, 4, 1, api.OK}, {writeInt(math.MaxInt - 1), math.MaxInt, math.MaxInt - 1, 10, api.OK},
		{writeInt(5), 5, 0, 0, api.ErrArg}, {writeInt(6), 5, 0, 0, api.ErrArg}, {writeInt(64), 5, 0, 0, api.ErrArg},
		{writeInt(-1), 5, 0, 0, api.ErrArg}, {writeInt(math.MinInt), 5, 0, 0, api.ErrArg}, {writeInt(math.MaxInt), math.MaxInt, 0, 0, api.ErrArg},
		{writeInt(0), 0, 0, 0, api.ErrArg}, {writeInt(0), -1, 0, 0, api.ErrArg}, {writeInt(-5), -1, 0, 0, api.ErrArg}, {writeInt(0), math.MinInt, 0, 0, api.ErrArg},
		{writeInt(2), 0, 0, 0, api.ErrArg}, {writeInt(2) + "ab", 2, 0, 0, api.ErrArg},
		{"", 5, 0, 0, api.ErrEnd}, {"", 0, 0, 0, api.ErrEnd}, {"\x80", 5, 0, 1, api.ErrEnd}, {"\x80", -1, 0, 1, api.ErrEnd},
		{"\x80\x00", 5, 0, 1, api.ErrForm}, {"\x80\x00", 0, 0, 1, api.ErrForm},
	} {
		r := code.Open(c.s)
		if got := r.Below(c.most); got != c.want {
			t.Errorf("Below(%d) of %x: %d, not %d", c.most, c.s, got, c.want)
		}
		expect(t, "Below", r, c.at, c.code)
		if c.code != api.OK {
			expectStuck(t, "Below", r, c.code)
		}
	}
}

// P2.2: Below's error behind other things leaves what was taken ahead of it; bytes of its own that are right are taken of ErrEnd and ErrForm alone.
func TestReadBelowBehindOthers(t *testing.T) {
	for _, c := range []struct {
		s    string
		most int
		at   int
		code api.Code
	}{
		{writeInt(2), 0, 2, api.ErrArg}, {writeInt(0), 0, 2, api.ErrArg}, {writeInt(-1), 5, 2, api.ErrArg},
		{writeInt(64), 5, 2, api.ErrArg}, {writeInt(math.MinInt), 5, 2, api.ErrArg}, {writeInt(9) + "\x00", 9, 2, api.ErrArg},
		{"", 5, 2, api.ErrEnd}, {"\x80", 0, 3, api.ErrEnd}, {"\x80\x80", 5, 4, api.ErrEnd},
		{"\x80\x00", 0, 3, api.ErrForm}, {strings.Repeat("\xff", 9) + "\x02", 5, 11, api.ErrForm},
	} {
		r := code.Open(writeNumber(300) + c.s)
		r.Number()
		if got := r.Below(c.most); got != 0 {
			t.Errorf("Below(%d) of %x: %d", c.most, c.s, got)
		}
		expect(t, "Below behind a number", r, c.at, c.code)
		expectStuck(t, "Below behind a number", r, c.code)
	}
}

// P2.2
func TestReadText(t *testing.T) {
	long := strings.Repeat("x", 200)
	huge := writeNumber(math.MaxUint64)
	for _, c := range []struct {
		s    string
		most int
		want string
		at   int
		code api.Code
	}{
		{"\x02ab", 2, "ab", 3, api.OK}, {"\x02abc", 9, "ab", 3, api.OK}, {"\x02\x00\xff", 2, "\x00\xff", 3, api.OK},
		{"\x00", 0, "", 1, api.OK}, {"\x00", -1, "", 1, api.OK}, {"\x00", math.MinInt, "", 1, api.OK}, {"\x00ab", 5, "", 1, api.OK},
		{writeText(long), 200, long, 202, api.OK}, {writeText(long), math.MaxInt, long, 202, api.OK},
		{"\x03abc", 2, "", 0, api.ErrArg}, {writeText(long), 199, "", 0, api.ErrArg},
		{"\x01a", 0, "", 0, api.ErrArg}, {"\x01a", -1, "", 0, api.ErrArg}, {"\x01a", math.MinInt, "", 0, api.ErrArg},
		{"\x03", 2, "", 0, api.ErrArg}, {huge, math.MaxInt, "", 0, api.ErrArg}, {writeNumber(1 << 63), math.MaxInt, "", 0, api.ErrArg},
		{"\x02a", 2, "", 1, api.ErrEnd}, {"\x01", 1, "", 1, api.ErrEnd}, {writeText(long)[:201], 200, "", 2, api.ErrEnd},
		{writeNumber(math.MaxInt), math.MaxInt, "", 9, api.ErrEnd}, {writeNumber(math.MaxInt) + "ab", math.MaxInt, "", 9, api.ErrEnd},
		{"", 5, "", 0, api.ErrEnd}, {"", -1, "", 0, api.ErrEnd}, {"\x82", 5, "", 1, api.ErrEnd}, {"\x82", 0, "", 1, api.ErrEnd},
		{"\x82\x00ab", 5, "", 1, api.ErrForm}, {"\x82\x00ab", 0, "", 1, api.ErrForm},
	} {
		r := code.Open(c.s)
		if got := r.Text(c.most); got != c.want {
			t.Errorf("Text(%d) of %.20x: %q, not %q", c.most, c.s, got, c.want)
		}
		expect(t, "Text", r, c.at, c.code)
		if c.code != api.OK {
			expectStuck(t, "Text", r, c.code)
		}
	}
}

// P2.2: a text's error behind other things leaves what was taken ahead of it.
func TestReadTextBehindOthers(t *testing.T) {
	var w code.Writer
	w.Number(300)
	w.Text("abc")
	r := code.Open(w.Bytes())
	r.Number()
	if r.Text(2) != "" {
		t.Error("Text")
	}
	expect(t, "too long", r, 2, api.ErrArg)
	r = code.Open(w.Bytes()[:5])
	r.Number()
	if r.Text(3) != "" {
		t.Error("Text")
	}
	expect(t, "cut short", r, 3, api.ErrEnd)
}

// P2.2
func TestDone(t *testing.T) {
	r := code.Open("\x05\x06")
	expect(t, "at its beginning", r, 0, api.OK)
	r.Number()
	r.Number()
	if err := r.Done(); err != nil || r.Done() != nil {
		t.Errorf("Done: %v", err)
	}
	expect(t, "at its end", r, 2, api.OK)

	r = code.Open("\x05\x06")
	r.Number()
	if err := r.Done(); !errors.Is(err, api.ErrForm) {
		t.Errorf("Done with a byte left: %v", err)
	}
	expect(t, "with a byte left", r, 1, api.ErrForm)
	expectStuck(t, "with a byte left", r, api.ErrForm)

	r = code.Open("\x05")
	r.Below(1)
	if err := r.Done(); !errors.Is(err, api.ErrArg) {
		t.Errorf("Done behind ErrArg: %v", err)
	}
}

// P2.2: the zero Reader is as one of no bytes.
func TestZeroReader(t *testing.T) {
	for _, r := range []*code.Reader{new(code.Reader), code.Open("")} {
		expect(t, "no bytes", r, 0, api.OK)
		if err := r.Done(); err != nil {
			t.Errorf("Done: %v", err)
		}
		if s := r.Text(0); s != "" {
			t.Errorf("Text: %q", s)
		}
		expectStuck(t, "no bytes", r, api.ErrEnd)
	}
}

// K3: an error that a caller changes is that caller's alone.
func TestErrorsAreNew(t *testing.T) {
	r := code.Open("\x80")
	r.Number()
	for _, err := range []error{r.Err(), r.Done()} {
		var f *api.Fault
		if !errors.As(err, &f) {
			t.Fatalf("no fault: %v", err)
		}
		f.At, f.Err = 77, api.ErrHops
		expect(t, "behind a changed answer", r, 1, api.ErrEnd)
	}
}

// P2.3
func TestReadAgain(t *testing.T) {
	var w code.Writer
	for _, n := range numbers() {
		w.Number(n)
	}
	for _, n := range ints() {
		w.Int(n)
		w.Int(max(n, 0))
	}
	for n := range 300 {
		w.Text(strings.Repeat("\xfe", n))
	}
	r := code.Open(w.Bytes())
	for _, n := range numbers() {
		if got := r.Number(); got != n {
			t.Fatalf("%d is read as %d, %v", n, got, r.Err())
		}
	}
	for _, n := range ints() {
		if got := r.Int(); got != n {
			t.Fatalf("%d is read as %d, %v", n, got, r.Err())
		}
		if n == math.MaxInt {
			r.Int()
		} else if got := r.Below(max(n, 0) + 1); got != max(n, 0) {
			t.Fatalf("%d is read as %d, %v", n, got, r.Err())
		}
	}
	for n := range 300 {
		if got := r.Text(n); got != strings.Repeat("\xfe", n) {
			t.Fatalf("a text of %d bytes is read as %q, %v", n, got, r.Err())
		}
	}
	if err := r.Done(); err != nil || r.At() != len(w.Bytes()) {
		t.Errorf("Done: %v, At %d of %d", err, r.At(), len(w.Bytes()))
	}
}

// P2.2, P2.3: of all bytes up to four of telling ones: what is read is spelled by just the bytes that were taken.
func TestOneSpelling(t *testing.T) {
	telling := "\x00\x01\x02\x03\x7f\x80\x81\xff"
	eight := strings.Repeat("\x80", 8)
	var all []string
	for _, ahead := range []string{"", eight} {
		row := []string{ahead}
		for range 4 {
			var longer []string
			for _, s := range row {
				for i := range len(telling) {
					longer = append(longer, s+telling[i:i+1])
				}
			}
			all = append(all, longer...)
			row = longer
		}
	}
	for _, s := range all {
		oneSpelling(t, s)
	}
}

func oneSpelling(t *testing.T, s string) {
	r := code.Open(s)
	if n := r.Number(); r.Err() == nil && writeNumber(n) != s[:r.At()] || r.Err() != nil && n != 0 {
		t.Errorf("%x is read as the number %d", s, n)
	}
	r = code.Open(s)
	if n := r.Int(); r.Err() == nil && writeInt(n) != s[:r.At()] || r.Err() != nil && n != 0 {
		t.Errorf("%x is read as the int %d", s, n)
	}
	for most := -1; most < 4; most++ {
		r = code.Open(s)
		if n := r.Below(most); r.Err() == nil && (writeInt(n) != s[:r.At()] || n < 0 || n >= most) || r.Err() != nil && n != 0 {
			t.Errorf("%x is read as %d, below %d", s, n, most)
		}
		r = code.Open(s)
		if x := r.Text(most); r.Err() == nil && (writeText(x) != s[:r.At()] || len(x) > max(most, 0)) || r.Err() != nil && x != "" {
			t.Errorf("%x is read as the text %x, of at most %d", s, x, most)
		}
	}
}
