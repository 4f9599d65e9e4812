package filter

import (
	"errors"
	"strconv"
	"strings"

	"wigwag/api"
	"wigwag/value"
)

// reader goes through a text. Its calls answer ErrEnd where the text ends ahead of what is asked for, ErrParse where another thing stands; at is then the place at which it can't go on.
type reader struct {
	text string
	at   int
}

// filter: predicates, up to the text's end.
func (r *reader) filter() (value.Filter, error) {
	var f value.Filter
	for {
		p, err := r.pred()
		if err != nil {
			return nil, err
		}
		f = append(f, p)
		err = r.thisWord(wordAnd)
		// Here alone the text may end.
		if errors.Is(err, api.ErrEnd) {
			return f, nil
		}
		if err != nil {
			return nil, err
		}
	}
}

// pred: a name, and what is asked of it.
func (r *reader) pred() (value.Pred, error) {
	name, err := r.word()
	if err != nil {
		return value.Pred{}, err
	}
	if err := r.begin(); err != nil {
		return value.Pred{}, err
	}
	p := value.Pred{Name: name}
	switch r.text[r.at] {
	case markEq[0]:
		p.Op = value.Eq
		p.Str, err = r.markAndString(markEq)
	case markPrefix[0]:
		p.Op = value.Prefix
		p.Str, err = r.markAndString(markPrefix)
	default:
		p.Op = value.In
		p.Lo, p.Hi, err = r.numbers()
	}
	if err != nil {
		return value.Pred{}, err
	}
	return p, nil
}

// numbers: the word in, and the least and the greatest number.
func (r *reader) numbers() (int, int, error) {
	if err := r.thisWord(wordIn); err != nil {
		return 0, 0, err
	}
	lo, err := r.number()
	if err != nil {
		return 0, 0, err
	}
	if err := r.mark(markTo); err != nil {
		return 0, 0, err
	}
	hi, err := r.number()
	if err != nil {
		return 0, 0, err
	}
	return lo, hi, nil
}

func (r *reader) markAndString(mark string) (string, error) {
	if err := r.mark(mark); err != nil {
		return "", err
	}
	return r.str()
}

// begin: blanks are passed over; ErrEnd, if nothing stands behind them.
func (r *reader) begin() error {
	for r.at < len(r.text) && r.text[r.at] == ' ' {
		r.at++
	}
	if r.at == len(r.text) {
		return api.ErrEnd
	}
	return nil
}

// word: a letter, and the letters and digits behind it.
func (r *reader) word() (string, error) {
	if err := r.begin(); err != nil {
		return "", err
	}
	if !letter(r.text[r.at]) {
		return "", api.ErrParse
	}
	begin := r.at
	for r.at < len(r.text) && (letter(r.text[r.at]) || digit(r.text[r.at])) {
		r.at++
	}
	return r.text[begin:r.at], nil
}

// thisWord: just this word; of another one none is taken.
func (r *reader) thisWord(want string) error {
	word, err := r.word()
	if err != nil {
		return err
	}
	if word != want {
		r.at -= len(word)
		return api.ErrParse
	}
	return nil
}

// mark: just these bytes.
func (r *reader) mark(want string) error {
	if err := r.begin(); err != nil {
		return err
	}
	if !strings.HasPrefix(r.text[r.at:], want) {
		return api.ErrParse
	}
	r.at += len(want)
	return nil
}

// number: one in its one spelling; of another nothing is taken.
func (r *reader) number() (int, error) {
	if err := r.begin(); err != nil {
		return 0, err
	}
	first := r.at
	if r.text[first] == '-' {
		first++
	}
	end := first
	for end < len(r.text) && digit(r.text[end]) {
		end++
	}
	spelled := r.text[r.at:end]
	n, err := strconv.Atoi(spelled)
	// Spelled anew it has neither a 0 ahead nor a - ahead of 0.
	if err != nil || end-first > mostDigits || strconv.Itoa(n) != spelled {
		return 0, api.ErrParse
	}
	r.at = end
	return n, nil
}

// str: the bytes between two ".
func (r *reader) str() (string, error) {
	if err := r.mark(`"`); err != nil {
		return "", err
	}
	var b []byte
	for r.at < len(r.text) {
		switch c := r.text[r.at]; {
		case c == '"':
			r.at++
			return string(b), nil
		case c < 32 || c > 126:
			return "", api.ErrParse
		case c == '\\':
			r.at++
			if r.at == len(r.text) || !needsSign(r.text[r.at]) {
				return "", api.ErrParse
			}
			fallthrough
		default:
			b = append(b, r.text[r.at])
			r.at++
		}
	}
	return "", api.ErrEnd
}

func letter(b byte) bool { return b >= 'a' && b <= 'z' }

func digit(b byte) bool { return b >= '0' && b <= '9' }
