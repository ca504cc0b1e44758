package wildmat

import (
	"math/bits"
	"strings"

	"bulletin/api"
	"bulletin/ascii"
)

// nameCharacters are the name characters in bytewise order, so that the smallest one of a set is the one of its lowest bit.
const nameCharacters = "+-.0123456789_abcdefghijklmnopqrstuvwxyz"

// characters is a set of name characters; its bits stand for those of nameCharacters.
type characters uint64

const everyCharacter characters = 1<<len(nameCharacters) - 1

// setOf returns the set of a name character, and the empty set for another byte.
func setOf(c byte) characters {
	place := strings.IndexByte(nameCharacters, c)
	if place < 0 {
		return 0
	}
	return 1 << place
}

// smallest returns the smallest character of a set that is not empty, as a text.
func (s characters) smallest() string {
	place := bits.TrailingZeros64(uint64(s))
	return nameCharacters[place : place+1]
}

// element is a part of a pattern.
type element interface {
	// stands returns the characters for one of which, or for a sequence of which, the element stands.
	stands() characters
}

// single is an element that stands for itself.
type single byte

func (c single) stands() characters { return setOf(byte(c)) }

// anyone is the element ?.
type anyone struct{}

func (anyone) stands() characters { return everyCharacter }

// sequence is the element *.
type sequence struct{}

func (sequence) stands() characters { return everyCharacter }

// class is an element in brackets.
type class struct{ set characters }

func (c class) stands() characters { return c.set }

// parseElement returns the element with which a string that is not empty begins, and its length.
func parseElement(s string) (element, int, api.Errno) {
	switch {
	case s[0] == '*':
		return sequence{}, 1, api.OK
	case s[0] == '?':
		return anyone{}, 1, api.OK
	case s[0] == '[':
		return parseClass(s)
	case setOf(s[0]) != 0:
		return single(s[0]), 1, api.OK
	}
	return nil, 0, api.ErrByte
}

// parseClass returns the class with which a string that begins with a bracket begins, and its length.
func parseClass(s string) (element, int, api.Errno) {
	at := len("[")
	negated := strings.HasPrefix(s[at:], "^")
	if negated {
		at += len("^")
	}
	set, length := parseItems(s[at:])
	at += length
	if length == 0 || !strings.HasPrefix(s[at:], "]") {
		return nil, 0, api.ErrFormat
	}
	if negated {
		set = everyCharacter &^ set
	}
	return class{set}, at + len("]"), api.OK
}

// parseItems returns the characters of the items with which a string begins, and the length of the items.
func parseItems(s string) (characters, int) {
	set, at := characters(0), 0
	if strings.HasPrefix(s, "-") { // a hyphen elsewhere belongs to a range
		set, at = setOf('-'), len("-")
	}
	for at < len(s) && s[at] != '-' && setOf(s[at]) != 0 {
		last := at
		if isRange(s[at:]) {
			last += len("a-")
		}
		for c := s[at]; c <= s[last]; c++ {
			set |= setOf(c)
		}
		at = last + 1
	}
	return set, at
}

// isRange reports whether a string begins with a range.
func isRange(s string) bool {
	if len(s) < len("a-z") || s[1] != '-' || s[0] > s[2] {
		return false
	}
	return ascii.IsLower(s[0]) && ascii.IsLower(s[2]) || ascii.IsDigit(s[0]) && ascii.IsDigit(s[2])
}
