// Package code is layer 2: see shared/doc/02-code.md.
package code

import (
	"wigwag/api"
)

// more is the bit of a byte behind which the number goes on.
const more = 0x80

// Writer gathers bytes.
type Writer struct {
	bytes []byte
}

// Number: seven bits a byte, the lowest first; all bytes but the last one have their highest bit.
func (w *Writer) Number(n uint64) {
	for n >= more {
		w.bytes = append(w.bytes, byte(n)|more)
		n >>= 7
	}
	w.bytes = append(w.bytes, byte(n))
}

// Int: a number that may be below 0.
func (w *Writer) Int(n int) {
	if n >= 0 {
		w.Number(2 * uint64(n))
		return
	}
	// One is added ahead of the change of sign: the least int has no counterpart.
	w.Number(2*uint64(-(n+1)) + 1)
}

// Text: its length, and its bytes.
func (w *Writer) Text(s string) {
	w.Number(uint64(len(s)))
	w.bytes = append(w.bytes, s...)
}

// Bytes: what was gathered.
func (w *Writer) Bytes() string {
	return string(w.bytes)
}

// Reader takes bytes, one thing behind the other.
type Reader struct {
	text string
	at   int
	code api.Code
}

// Open: a reader.
func Open(s string) *Reader {
	return &Reader{text: s}
}

// Number: as Writer's.
func (r *Reader) Number() uint64 {
	if r.code != api.OK {
		return 0
	}
	var n uint64
	for i := 0; ; i++ {
		if r.at == len(r.text) {
			r.code = api.ErrEnd
			return 0
		}
		b := r.text[r.at]
		// Of the tenth byte one bit is left, so that it is always the last one.
		if i == 9 && b > 1 || i > 0 && b == 0 {
			r.code = api.ErrForm
			return 0
		}
		r.at++
		n |= uint64(b&^more) << (7 * i)
		if b < more {
			return n
		}
	}
}

// Int: as Writer's.
func (r *Reader) Int() int {
	n := r.Number()
	half := int(n / 2)
	if n%2 == 1 {
		return -half - 1
	}
	return half
}

// Below: an Int that isn't below 0, and is less than another one.
func (r *Reader) Below(most int) int {
	begin := r.at
	n := r.Int()
	if r.code != api.OK {
		return 0
	}
	if n < 0 || n >= most {
		r.refuse(begin)
		return 0
	}
	return n
}

// refuse: a number that is spelled right but isn't what was asked for counts as not taken.
func (r *Reader) refuse(begin int) {
	r.at = begin
	r.code = api.ErrArg
}

// Text: as Writer's, of at most so many bytes.
func (r *Reader) Text(most int) string {
	begin := r.at
	n := r.Number()
	if r.code != api.OK {
		return ""
	}
	// Numbers are held against each other ahead of any change to int: a length may be above all ints.
	if n > uint64(max(most, 0)) {
		r.refuse(begin)
		return ""
	}
	if n > uint64(len(r.text)-r.at) {
		r.code = api.ErrEnd
		return ""
	}
	s := r.text[r.at : r.at+int(n)]
	r.at += int(n)
	return s
}

// At: how many bytes were taken.
func (r *Reader) At() int {
	return r.at
}

// Done: the first error; ErrForm, if bytes are left.
func (r *Reader) Done() error {
	if r.code == api.OK && r.at < len(r.text) {
		r.code = api.ErrForm
	}
	return r.Err()
}

// Err: the first error.
func (r *Reader) Err() error {
	if r.code == api.OK {
		return nil
	}
	// A new one each time: a caller that changes it changes no other answer.
	return &api.Fault{Where: "code", At: r.at, Err: r.code}
}
