package article

import (
	"strings"

	"bulletin/api"
	"bulletin/utf8"
)

const (
	lineFeed       = "\n"
	carriageReturn = "\r"
	lineEnd        = carriageReturn + lineFeed // of the texts that FromLine reads
)

// maxFromLine is the maximum number of bytes of a text whose line ends have two bytes.
const maxFromLine = 2 * api.MaxArticle

// wrongByte returns the offset of the first code point that a line must not have, or of the first byte that is not part of valid UTF-8, or -1 if there is neither.
func wrongByte(line string) int {
	if utf8.Printable(strings.ReplaceAll(line, "\t", " ")) {
		return -1
	}
	for at, r := range utf8.Runes(line) {
		if r != '\t' && !utf8.Printable(string(r)) {
			return at
		}
	}
	at, _ := utf8.Check(line)
	return at
}

// CheckBody returns the offset of the first error of a body and its kind.
func CheckBody(body string) (int, api.Errno) {
	for at := 0; at < len(body); {
		line, _, ended := strings.Cut(body[at:], lineFeed)
		switch {
		case !ended:
			return len(body), api.ErrShort
		case len(line) > api.MaxLine:
			return at + api.MaxLine, api.ErrLong
		}
		if wrong := wrongByte(line); wrong >= 0 {
			return at + wrong, api.ErrByte
		}
		at += len(line) + len(lineFeed)
	}
	return 0, api.OK
}

// isUnended reports whether a text ends within a line.
func isUnended(s string) bool { return s != "" && !strings.HasSuffix(s, lineFeed) }

// ToLine returns a text whose lines end with CR LF instead of LF, and FromLine its inverse, or the offset of the first error.
func ToLine(s string) (string, api.Errno) {
	switch {
	case len(s) > api.MaxArticle:
		return "", api.ErrLong
	case strings.Contains(s, carriageReturn):
		return "", api.ErrByte
	case isUnended(s):
		return "", api.ErrShort
	}
	return strings.ReplaceAll(s, lineFeed, lineEnd), api.OK
}

// halfEnd returns the offset of the first half of a line end that stands without the other half, or -1 if there is none.
func halfEnd(s string) int {
	for at := 0; at < len(s); at++ {
		if strings.HasPrefix(s[at:], lineEnd) {
			at++ // the line feed has been seen as well
		} else if strings.IndexByte(lineEnd, s[at]) >= 0 {
			return at
		}
	}
	return -1
}

func FromLine(s string) (string, int, api.Errno) {
	if len(s) > maxFromLine {
		return "", maxFromLine, api.ErrLong
	}
	if at := halfEnd(s); at >= 0 {
		return "", at, api.ErrFormat
	}
	if isUnended(s) {
		return "", len(s), api.ErrShort
	}
	text := strings.ReplaceAll(s, lineEnd, lineFeed)
	if len(text) > api.MaxArticle {
		return "", 0, api.ErrLong
	}
	return text, 0, api.OK
}

// Lines iterates over the lines of a body without their ends, and Count returns their number.
func Lines(body string) func(yield func(int, string) bool) {
	text := strings.Clone(body) // a part of body would keep all of body alive
	return func(yield func(int, string) bool) {
		if yield == nil { // nobody wants the lines
			return
		}
		for index, rest := 0, text; rest != ""; index++ {
			line, after, _ := strings.Cut(rest, lineFeed)
			if !yield(index, line) {
				return
			}
			rest = after
		}
	}
}

func Count(body string) int {
	count := 0
	for range Lines(body) {
		count++
	}
	return count
}
