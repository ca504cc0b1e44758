package word

import (
	"strings"

	"bulletin/api"
	"bulletin/utf8"
)

// Encode returns a text in which everything that needs it is encoded; texts without such characters are unchanged.
func Encode(s string, encoding int) (string, api.Errno) {
	_, known := writers()[encoding]
	switch {
	case !known:
		return "", api.ErrRange
	case len(s) > MaxText:
		return "", api.ErrLong
	case !isPrintable(s):
		return "", api.ErrByte
	case Plain(s):
		return strings.Clone(s), api.OK
	}
	var words []string
	for s != "" {
		word, n := first(s, encoding)
		words = append(words, word)
		s = s[n:]
	}
	return strings.Join(words, " "), api.OK
}

// first returns the encoded word of as many characters of s as possible, and the number of their bytes.
func first(s string, encoding int) (word string, n int) {
	for at, r := range utf8.Runes(s) {
		character, _ := utf8.Encode(r)
		longer, e := Word(s[:at+len(character)], encoding)
		if e != api.OK {
			break
		}
		word, n = longer, at+len(character)
	}
	return word, n
}

// Decode returns the text of a field's body, with all encoded words decoded.
func Decode(s string) (string, api.Errno) {
	isWrong := func(c byte) bool { return isOther(c) || isControl(c) && c != '\t' }
	switch {
	case len(s) > maxEncoded:
		return "", api.ErrLong
	case contains(s, isWrong):
		return "", api.ErrByte
	}
	isVisible := func(c byte) bool { return !isBlank(c) }
	var text strings.Builder
	done := 0
	for i, place := range Find(s) {
		between := s[done:place.From]
		if i == 0 || contains(between, isVisible) {
			text.WriteString(between)
		}
		decoded, _, _ := Parse(s[place.From:place.To])
		text.WriteString(decoded)
		done = place.To
	}
	text.WriteString(s[done:])
	return text.String(), api.OK
}

// Place is where an encoded word stands: From its first byte up to, but not including, To.
type Place struct{ From, To int }

// tokens iterates over the places of all tokens of a text.
func tokens(s string) func(yield func(Place) bool) {
	return func(yield func(Place) bool) {
		from := 0
		for to := range len(s) + 1 {
			if to < len(s) && !isBlank(s[to]) {
				continue
			}
			if from < to && !yield(Place{from, to}) {
				return
			}
			from = to + 1
		}
	}
}

// Find returns the places of all encoded words of a text, in order.
func Find(s string) []Place {
	if len(s) > maxEncoded {
		return nil
	}
	var places []Place
	for place := range tokens(s) {
		if _, _, e := Parse(s[place.From:place.To]); e == api.OK {
			places = append(places, place)
		}
	}
	return places
}

// Shorter returns the encoding with the shorter result for a text.
func Shorter(s string) int {
	inB, _ := Encode(s, B)
	inQ, _ := Encode(s, Q)
	if len(inQ) < len(inB) {
		return Q
	}
	return B
}
