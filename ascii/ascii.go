// Package ascii classifies, compares and splits texts of ASCII characters. It is layer 1: see shared/doc/01-ascii.md.
package ascii

import (
	"strconv"
	"strings"

	"bulletin/api"
)

const hexDigits = "0123456789abcdef"

// IsLower, IsUpper, IsLetter and IsDigit report whether a byte is a lower-case letter, an upper-case letter, a letter, or a digit.
func IsLower(c byte) bool { return 'a' <= c && c <= 'z' }

func IsUpper(c byte) bool { return 'A' <= c && c <= 'Z' }

func IsLetter(c byte) bool { return IsLower(c) || IsUpper(c) }

func IsDigit(c byte) bool { return '0' <= c && c <= '9' }

// IsVisible reports whether a byte is from 33 to 126, and IsBlank whether it is a space or a tab.
func IsVisible(c byte) bool { return '!' <= c && c <= '~' }

func IsBlank(c byte) bool { return c == ' ' || c == '\t' }

func isVisibleOrSpace(c byte) bool { return c == ' ' || IsVisible(c) }

func isNotBlank(c byte) bool { return !IsBlank(c) }

// skip returns the end of the longest sequence of bytes of a class that begins at an offset of s.
func skip(s string, from int, class func(byte) bool) int {
	for from < len(s) && class(s[from]) {
		from++
	}
	return from
}

// Lower returns a string whose upper-case letters are replaced by lower-case letters.
//
// The functions of package strings are of no use here: they take bytes above 127 for parts of UTF-8 characters.
func Lower(s string) string {
	b := []byte(s)
	for i, c := range b {
		if IsUpper(c) {
			b[i] = c + ('a' - 'A')
		}
	}
	return string(b)
}

// EqualFold reports whether two strings are equal if case is ignored.
func EqualFold(a, b string) bool { return Lower(a) == Lower(b) }

// CompareFold compares two strings byte by byte, ignoring case.
func CompareFold(a, b string) int { return strings.Compare(Lower(a), Lower(b)) }

// IndexFold returns the first index at which a string contains another one if case is ignored, or -1.
func IndexFold(s, part string) int { return strings.Index(Lower(s), Lower(part)) }

// Trim removes blanks at both ends.
func Trim(s string) string {
	from, to := skip(s, 0, IsBlank), len(s)
	for to > from && IsBlank(s[to-1]) {
		to--
	}
	return strings.Clone(s[from:to]) // a part of s would keep all of s alive
}

// Words returns the maximal sequences of bytes that are not blanks.
func Words(s string) []string {
	var words []string
	collect := func(from, to int) {
		if from < to {
			words = append(words, strings.Clone(s[from:to]))
		}
	}
	for from := 0; from < len(s); {
		to := skip(s, from, isNotBlank)
		collect(from, to)
		from = skip(s, to, IsBlank)
	}
	return words
}

// Squeeze joins the words of a string by single spaces.
func Squeeze(s string) string { return strings.Join(Words(s), " ") }

// Printable returns the offset of the first byte that is neither visible nor a space, or -1.
func Printable(s string) int {
	if at := skip(s, 0, isVisibleOrSpace); at < len(s) {
		return at
	}
	return -1
}

// Digits returns a number in decimal.
func Digits(n int) string { return strconv.Itoa(n) }

// Number returns the number that a string denotes in decimal.
func Number(s string, most int) (int, api.Errno) {
	if s == "" || skip(s, 0, IsDigit) < len(s) || len(s) > 1 && s[0] == '0' {
		return 0, api.ErrFormat
	}
	// What consists of digits fails to convert only if it is too great for an int.
	n, err := strconv.Atoi(s)
	if err != nil || n > most {
		return 0, api.ErrRange
	}
	return n, api.OK
}

// Hex returns bytes in lower-case hexadecimal.
func Hex(b []byte) string {
	var text strings.Builder
	for _, c := range b {
		text.WriteByte(hexDigits[c>>4])
		text.WriteByte(hexDigits[c&15])
	}
	return text.String()
}

// Unhex returns the bytes that a string denotes in lower-case hexadecimal.
func Unhex(s string) ([]byte, api.Errno) {
	if len(s)%2 != 0 {
		return nil, api.ErrFormat
	}
	b := make([]byte, len(s)/2)
	for i := range b {
		upper := strings.IndexByte(hexDigits, s[2*i])
		lower := strings.IndexByte(hexDigits, s[2*i+1])
		if upper < 0 || lower < 0 {
			return nil, api.ErrFormat
		}
		b[i] = byte(upper<<4 | lower)
	}
	return b, api.OK
}
