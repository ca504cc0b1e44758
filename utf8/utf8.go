// Package utf8 validates, decodes and encodes UTF-8 text (layer 3, see shared/doc/03-utf8.md).
package utf8

import (
	"strings"

	"bulletin/api"
)

// MaxRune is the greatest code point, and Replacement the code point that stands for bytes that are not valid.
const (
	MaxRune     = 0x10FFFF
	Replacement = 0xFFFD
)

// The numbers that are not code points although they are at most MaxRune.
const (
	firstSurrogate = 0xD800
	lastSurrogate  = 0xDFFF
)

// bounds: the code points with encodings of n bytes are less than bounds[n], and not less than bounds[n-1].
var bounds = [5]rune{0, 0x80, 0x800, 0x10000, MaxRune + 1}

// length returns how many bytes an encoding has whose first byte has the upper bits of c, or 0 if there is none.
func length(c byte) int {
	n := 0
	switch {
	case c >= 0xF8:
	case c >= 0xF0:
		n++
		fallthrough
	case c >= 0xE0:
		n++
		fallthrough
	case c >= 0xC0:
		n++
		fallthrough
	case c < 0x80:
		n++
	}
	return n
}

func isContinuation(c byte) bool { return c&0xC0 == 0x80 }

// begins reports whether an encoding of n bytes begins with bytes whose bits are those of upper, where left bytes are still missing.
func begins(upper rune, n, left int) bool {
	first := upper << (6 * left)
	last := first | (1<<(6*left) - 1)
	if first >= firstSurrogate && last <= lastSurrogate {
		return false
	}
	return last >= bounds[n-1] && first < bounds[n]
}

// next returns the code point at the beginning of s, which is not empty, and the size of its encoding. If no encoding is there, it returns the kind of the error and the size of the longest beginning of an encoding with which s begins.
func next(s string) (r rune, size int, e api.Errno) {
	n := length(s[0])
	if n == 1 {
		return rune(s[0]), 1, api.OK
	}
	upper := rune(s[0] & (0x7F >> n))
	if n == 0 || !begins(upper, n, n-1) {
		return 0, 0, api.ErrByte
	}
	for k := 1; k < n; k++ {
		if k == len(s) {
			return 0, k, api.ErrTruncated
		}
		upper = upper<<6 | rune(s[k]&0x3F)
		if !isContinuation(s[k]) || !begins(upper, n, n-1-k) {
			return 0, k, api.ErrFormat
		}
	}
	return upper, n, api.OK
}

// Check returns the offset of the first error and its kind.
func Check(s string) (int, api.Errno) {
	for at := 0; at < len(s); {
		_, size, e := next(s[at:])
		if e != api.OK {
			return at, e
		}
		at += size
	}
	return 0, api.OK
}

// Valid reports whether a string is valid UTF-8.
func Valid(s string) bool {
	_, e := Check(s)
	return e == api.OK
}

// Decode returns the first code point of a string and the number of its bytes.
func Decode(s string) (r rune, size int, e api.Errno) {
	if s == "" {
		return 0, 0, api.ErrArgument
	}
	r, size, e = next(s)
	if e != api.OK {
		return 0, 0, e
	}
	return r, size, api.OK
}

// Encode returns the bytes of a code point.
func Encode(r rune) (string, api.Errno) {
	if r < 0 || r > MaxRune || firstSurrogate <= r && r <= lastSurrogate {
		return "", api.ErrRange
	}
	n := 1
	for r >= bounds[n] {
		n++
	}
	if n == 1 {
		return string([]byte{byte(r)}), api.OK
	}
	b := make([]byte, n)
	for k := n - 1; k > 0; k-- {
		b[k] = 0x80 | byte(r&0x3F)
		r >>= 6
	}
	b[0] = ^byte(0xFF>>n) | byte(r) // n ones and a zero tell the length
	return string(b), api.OK
}

// Count returns the number of code points of a string.
func Count(s string) (int, api.Errno) {
	if _, e := Check(s); e != api.OK {
		return 0, e
	}
	n := 0
	for range Runes(s) {
		n++
	}
	return n, api.OK
}

// Offset returns the offset of the code point with an index.
func Offset(s string, index int) (int, api.Errno) {
	n, e := Count(s)
	switch {
	case e != api.OK:
		return 0, e
	case index < 0 || index > n:
		return 0, api.ErrRange
	}
	for at := range Runes(s) {
		if index == 0 {
			return at, api.OK
		}
		index--
	}
	return len(s), api.OK
}

// Truncate returns the longest prefix of whole code points that has at most a given number of bytes.
func Truncate(s string, most int) (string, api.Errno) {
	if _, e := Check(s); e != api.OK {
		return "", e
	}
	if most < 0 {
		return "", api.ErrRange
	}
	end := min(most, len(s))
	for end < len(s) && isContinuation(s[end]) {
		end--
	}
	return strings.Clone(s[:end]), api.OK // a part of s would keep all of s alive
}

// Repair replaces everything that is not valid.
func Repair(s string) string {
	replacement, _ := Encode(Replacement)
	var text strings.Builder
	for at := 0; at < len(s); {
		_, size, e := next(s[at:])
		if e == api.OK {
			text.WriteString(s[at : at+size])
		} else {
			text.WriteString(replacement)
		}
		at += max(size, 1)
	}
	return text.String()
}

// Runes iterates over the offsets and code points of a string, up to its first error.
func Runes(s string) func(yield func(int, rune) bool) {
	return func(yield func(int, rune) bool) {
		for at := 0; at < len(s); {
			r, size, e := next(s[at:])
			if e != api.OK || !yield(at, r) {
				return
			}
			at += size
		}
	}
}

func isControl(r rune) bool {
	return r < 0x20 || 0x7F <= r && r <= 0x9F || r == 0x2028 || r == 0x2029
}

// Printable reports whether a string is valid and contains no control characters.
func Printable(s string) bool {
	for _, r := range Runes(s) {
		if isControl(r) {
			return false
		}
	}
	return Valid(s)
}

// Decoder validates text that arrives in pieces.
type Decoder struct {
	pending string // the beginning of an encoding that is not complete
	closed  bool
}

// NewDecoder returns a decoder that has received nothing.
func NewDecoder() *Decoder { return &Decoder{} }

// Write adds bytes and returns the text that is complete.
func (d *Decoder) Write(b []byte) (string, api.Errno) {
	switch {
	case d == nil:
		return "", api.ErrArgument
	case d.closed:
		return "", api.ErrState
	}
	text := d.pending + string(b)
	complete, e := Check(text)
	switch e {
	case api.OK:
		complete = len(text)
	case api.ErrTruncated: // the rest may still come
	default:
		return "", e
	}
	d.pending = strings.Clone(text[complete:])
	return text[:complete], api.OK
}

// Pending returns the number of bytes of an incomplete code point.
func (d *Decoder) Pending() int {
	if d == nil {
		return 0
	}
	return len(d.pending)
}

// Close reports whether the text is complete, and ends it if it is.
func (d *Decoder) Close() api.Errno {
	switch {
	case d == nil:
		return api.ErrArgument
	case d.closed:
		return api.ErrState
	case d.pending != "":
		return api.ErrTruncated
	}
	d.closed = true
	return api.OK
}
