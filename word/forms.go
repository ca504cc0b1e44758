package word

import (
	"strings"

	"bulletin/api"
	"bulletin/base64"
)

// The encodings.
const (
	B = 0 // base64
	Q = 1 // hexadecimal digits after equals signs
)

// letters has the letter of each encoding.
const letters = "BQ"

const hexDigits = "0123456789ABCDEF"

func isCapital(c byte) bool { return 'A' <= c && c <= 'Z' }

// isItself reports whether a byte stands for itself with Q.
func isItself(c byte) bool {
	return isCapital(c) || 'a' <= c && c <= 'z' || '0' <= c && c <= '9' || strings.IndexByte("!*+-/", c) >= 0
}

// writers returns the functions that write texts as data, by the encodings.
func writers() map[int]func(text string) string {
	return map[int]func(string) string{
		B: func(text string) string {
			data, _ := base64.Encode([]byte(text))
			return data
		},
		Q: func(text string) string {
			var data strings.Builder
			for _, c := range []byte(text) {
				switch {
				case isItself(c):
					data.WriteByte(c)
				case c == ' ':
					data.WriteByte('_')
				default:
					data.Write([]byte{'=', hexDigits[c>>4], hexDigits[c&15]})
				}
			}
			return data.String()
		},
	}
}

// readers returns the functions that read the texts of data, and report whether there are any, by the encodings.
func readers() map[int]func(data string) (string, bool) {
	return map[int]func(string) (string, bool){
		B: func(data string) (string, bool) {
			text, _, e := base64.Decode(data)
			return string(text), e == api.OK
		},
		Q: func(data string) (string, bool) {
			var text strings.Builder
			for data != "" {
				c, n := readQ(data)
				if n == 0 {
					return "", false
				}
				text.WriteByte(c)
				data = data[n:]
			}
			return text.String(), true
		},
	}
}

// readQ returns the first byte of the text of some data that are not empty, and how many bytes of the data denote it: 0 if they denote nothing.
func readQ(data string) (byte, int) {
	switch c := data[0]; {
	case isItself(c):
		return c, 1
	case c == '_':
		return ' ', 1
	case c != '=' || len(data) < 3:
		return 0, 0
	}
	upper, lower := strings.IndexByte(hexDigits, data[1]), strings.IndexByte(hexDigits, data[2])
	if upper < 0 || lower < 0 {
		return 0, 0
	}
	return byte(upper<<4 | lower), 3
}
