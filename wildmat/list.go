package wildmat

import (
	"slices"
	"strings"

	"bulletin/api"
)

// The verdicts of a list.
const (
	Unmatched = 0 // no pattern matches
	Accepted  = 1 // the last pattern that matches is plain
	Rejected  = 2 // the last pattern that matches has a !
	Poisoned  = 3 // the last pattern that matches has a @
)

// entry is a pattern of a list, with the verdict on the names that it decides.
type entry struct {
	pattern *Pattern
	verdict int
}

// List is a list of patterns.
type List struct {
	text    string
	entries []entry
}

// cutPrefix returns the verdict to which what precedes a pattern leads, and the pattern.
func cutPrefix(s string) (int, string) {
	if pattern, found := strings.CutPrefix(s, "!"); found {
		return Rejected, pattern
	}
	if pattern, found := strings.CutPrefix(s, "@"); found {
		return Poisoned, pattern
	}
	return Accepted, s
}

// ParseList returns the list that a string denotes; on error it returns the offset of the error.
func ParseList(s string) (*List, int, api.Errno) {
	l := &List{}
	begin := 0
	for i, part := range strings.SplitN(s, ",", MaxList+1) { // one part more than there may be
		if i == MaxList {
			return nil, begin, api.ErrLimit
		}
		verdict, text := cutPrefix(part)
		pattern, at, e := Compile(text) // an empty string is an empty pattern
		if e != api.OK {
			return nil, begin + len(part) - len(text) + at, e
		}
		l.entries = append(l.entries, entry{pattern, verdict})
		begin += len(part) + len(",")
	}
	l.text = strings.Clone(s)
	return l, 0, api.OK
}

// String returns the text of a list.
func (l *List) String() string {
	if l == nil {
		return ""
	}
	return strings.Clone(l.text)
}

// Len returns the number of patterns.
func (l *List) Len() int {
	if l == nil {
		return 0
	}
	return len(l.entries)
}

// Verdict returns the verdict of a list on a name.
func (l *List) Verdict(name string) int {
	if l == nil {
		return Unmatched
	}
	for _, x := range slices.Backward(l.entries) {
		if x.pattern.Match(name) {
			return x.verdict
		}
	}
	return Unmatched
}

// Selects reports whether a list accepts one of several names and poisons none of them.
func (l *List) Selects(names []string) bool {
	accepts := func(name string) bool { return l.Verdict(name) == Accepted }
	poisons := func(name string) bool { return l.Verdict(name) == Poisoned }
	return slices.ContainsFunc(names, accepts) && !slices.ContainsFunc(names, poisons)
}

// Filter returns the names that a list accepts, in order.
func (l *List) Filter(names []string) []string {
	var accepted []string
	for _, name := range names {
		if l.Verdict(name) == Accepted {
			accepted = append(accepted, strings.Clone(name))
		}
	}
	return accepted
}
