package control

import (
	"bytes"
	"strings"

	"bulletin/api"
)

const hexDigits = "0123456789abcdef"

// authorLength is the number of bytes of the text of an author's identity.
const authorLength = 2 * len(api.Author{})

// AuthorText returns the text of an author's identity, and ParseAuthor the identity of a text.
func AuthorText(a api.Author) string {
	var text strings.Builder
	for _, b := range a {
		text.WriteByte(hexDigits[b>>4])
		text.WriteByte(hexDigits[b&15])
	}
	return text.String()
}

func ParseAuthor(s string) (a api.Author, at int, e api.Errno) {
	for at := range min(len(s), authorLength) {
		value := strings.IndexByte(hexDigits, s[at])
		if value < 0 {
			return api.Author{}, at, api.ErrByte
		}
		a[at/2] = a[at/2]<<4 | byte(value)
	}
	switch {
	case len(s) < authorLength:
		return api.Author{}, len(s), api.ErrShort
	case len(s) > authorLength:
		return api.Author{}, authorLength, api.ErrLong
	}
	return a, 0, api.OK
}

// checkAuthors returns the first error of a list of moderators that is not empty.
func checkAuthors(l []api.Author) api.Errno {
	if len(l) > MaxModerators {
		return api.ErrLimit
	}
	for i := 1; i < len(l); i++ {
		if bytes.Compare(l[i-1][:], l[i][:]) >= 0 {
			return api.ErrSequence
		}
	}
	return api.OK
}
