package node

import (
	"slices"
	"strings"

	"wigwag/filter"
	"wigwag/table"
	"wigwag/value"
)

// between is what filter.Print writes between each two predicates.
const between = " and "

// wants: does a child's wish take an event?
func (n *Node) wants(x table.Entry, e value.Event) bool {
	return x.Any || slices.ContainsFunc(x.Filters, func(text string) bool {
		return n.schema.Match(parse(text), e)
	})
}

// parse: the filter of a printed text; none, which takes nothing, if it isn't one. Printed with all its blanks a filter may be longer than filter.Parse reads; then its first predicates are read one by one.
func parse(text string) value.Filter {
	var f value.Filter
	for len(text) > filter.MaxBytes {
		one, next := first(text)
		if next == 0 {
			return nil
		}
		f = append(f, one...)
		text = text[next:]
	}
	rest, err := filter.Parse(text)
	if err != nil {
		return nil
	}
	return append(f, rest...)
}

// first: the first predicate of a text that is longer than filter.Parse reads, and where the next one begins (0: there is none).
func first(text string) (value.Filter, int) {
	for i := range filter.MaxBytes {
		if !strings.HasPrefix(text[i:], between) {
			continue
		}
		// Within a string, too, this may stand; what ends there is no filter.
		if f, err := filter.Parse(text[:i]); err == nil {
			return f, i + len(between)
		}
	}
	return nil, 0
}
