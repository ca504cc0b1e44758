// Package base64 encodes bytes as text and back (layer 2, see shared/doc/02-base64.md).
package base64

import (
	"strings"

	"bulletin/api"
)

// MaxBytes is the maximum number of bytes that are encoded or decoded in one call, and MaxWidth the maximum length of a line.
const (
	MaxBytes = 1 << 17
	MaxWidth = 998
)

// The numbers of bits of a byte and of a character.
const (
	byteBits      = 8
	characterBits = 6
)

var alphabet = [64]byte{
	'A', 'B', 'C', 'D', 'E', 'F', 'G', 'H', 'I', 'J', 'K', 'L', 'M', 'N', 'O', 'P',
	'Q', 'R', 'S', 'T', 'U', 'V', 'W', 'X', 'Y', 'Z', 'a', 'b', 'c', 'd', 'e', 'f',
	'g', 'h', 'i', 'j', 'k', 'l', 'm', 'n', 'o', 'p', 'q', 'r', 's', 't', 'u', 'v',
	'w', 'x', 'y', 'z', '0', '1', '2', '3', '4', '5', '6', '7', '8', '9', '+', '/',
}

// values returns the value of each character of the alphabet.
func values() map[byte]int {
	value := make(map[byte]int, len(alphabet))
	for v, c := range alphabet {
		value[c] = v
	}
	return value
}

// regroup returns a function that collects bits, the most significant one of each value first, and passes each complete group of size bits to emit.
func regroup(size int, emit func(group int)) func(value, bits int) {
	held, count := 0, 0
	return func(value, bits int) {
		held, count = held<<bits|value, count+bits
		for count >= size {
			count -= size
			emit(held >> count)
			held &= 1<<count - 1
		}
	}
}

// Size returns the number of characters of the encoding of n bytes.
func Size(n int) int {
	if n < 0 || n > MaxBytes {
		return 0
	}
	return (n + 2) / 3 * 4
}

// encode returns the encoding of bytes, however many they are.
func encode(b []byte) string {
	var text strings.Builder
	add := regroup(characterBits, func(group int) { text.WriteByte(alphabet[group]) })
	for _, c := range b {
		add(int(c), byteBits)
	}
	if odd := len(b) * byteBits % characterBits; odd > 0 {
		add(0, characterBits-odd)
	}
	for text.Len()%4 != 0 {
		text.WriteByte('=')
	}
	return text.String()
}

// Encode returns the encoding of bytes, with padding and without line feeds.
func Encode(b []byte) (string, api.Errno) {
	if len(b) > MaxBytes {
		return "", api.ErrLong
	}
	return encode(b), api.OK
}

// padding returns how many characters = are in place.
func padding(s string) int {
	switch {
	case len(s)%4 != 0 || !strings.HasSuffix(s, "="):
		return 0
	case !strings.HasSuffix(s, "=="):
		return 1
	default:
		return 2
	}
}

// Decode returns the bytes of an encoding, or the offset of the first error and its kind.
func Decode(s string) ([]byte, int, api.Errno) {
	if len(s) > Size(MaxBytes) {
		return nil, 0, api.ErrLong
	}
	pads := padding(s)
	data := s[:len(s)-pads]
	b := make([]byte, 0, len(s)/4*3)
	add := regroup(byteBits, func(group int) { b = append(b, byte(group)) })
	value := values()
	last := 0
	for i := range len(data) {
		v, ok := value[data[i]]
		if !ok {
			return nil, i, api.ErrByte
		}
		add(v, characterBits)
		last = v
	}
	if len(s)%4 != 0 {
		return nil, len(s), api.ErrShort
	}
	// Each = stands for two bits that were appended to the last group.
	if appended := 2 * pads; last&(1<<appended-1) != 0 {
		return nil, len(data) - 1, api.ErrFormat
	}
	return b, 0, api.OK
}

// Wrap divides a text into lines of a given width, each of which ends with a line feed.
func Wrap(s string, width int) (string, api.Errno) {
	switch {
	case width < 1 || width > MaxWidth:
		return "", api.ErrRange
	case len(s) > Size(MaxBytes):
		return "", api.ErrLong
	case strings.Contains(s, "\n"):
		return "", api.ErrByte
	}
	var lines strings.Builder
	for s != "" {
		n := min(width, len(s))
		lines.WriteString(s[:n])
		lines.WriteByte('\n')
		s = s[n:]
	}
	return lines.String(), api.OK
}

// Unwrap removes the line feeds of a text whose lines, except for the last one, all have the same width.
func Unwrap(s string) (string, int, api.Errno) {
	switch {
	case s == "":
		return "", 0, api.OK
	case len(s) > 2*Size(MaxBytes):
		return "", 0, api.ErrLong
	case !strings.HasSuffix(s, "\n"):
		return "", len(s), api.ErrShort
	}
	width := strings.IndexByte(s, '\n') // that of the first line, which all others but the last one must have
	var text strings.Builder
	for at := 0; at < len(s); {
		n := strings.IndexByte(s[at:], '\n')
		next := at + n + 1
		if n == 0 || n > MaxWidth || n > width || n < width && next < len(s) {
			return "", at, api.ErrFormat
		}
		text.WriteString(s[at : at+n])
		at = next
	}
	if text.Len() > Size(MaxBytes) {
		return "", 0, api.ErrLong
	}
	return text.String(), 0, api.OK
}

// Valid reports whether a text is the encoding of some bytes.
func Valid(s string) bool {
	_, _, e := Decode(s)
	return e == api.OK
}

// Encoder encodes bytes that arrive in pieces.
type Encoder struct {
	rest   [2]byte // what was received after the last complete group of three bytes: n % 3 bytes
	n      int     // the number of bytes received
	closed bool
}

// NewEncoder returns an encoder that has received no bytes.
func NewEncoder() *Encoder { return &Encoder{} }

// Write adds bytes and returns the characters that are complete.
func (e *Encoder) Write(b []byte) (string, api.Errno) {
	switch {
	case e == nil:
		return "", api.ErrArgument
	case e.closed:
		return "", api.ErrState
	case len(b) > MaxBytes-e.n:
		return "", api.ErrLong
	}
	all := append([]byte{}, e.rest[:e.n%3]...)
	all = append(all, b...)
	e.n += len(b)
	complete := len(all) - e.n%3
	copy(e.rest[:], all[complete:])
	return encode(all[:complete]), api.OK
}

// Close returns the remaining characters with their padding.
func (e *Encoder) Close() (string, api.Errno) {
	switch {
	case e == nil:
		return "", api.ErrArgument
	case e.closed:
		return "", api.ErrState
	}
	e.closed = true
	return encode(e.rest[:e.n%3]), api.OK
}

// Len returns the number of bytes that were added.
func (e *Encoder) Len() int {
	if e == nil {
		return 0
	}
	return e.n
}
