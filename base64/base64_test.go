package base64_test

import (
	"bytes"
	standard "encoding/base64"
	"math"
	"strings"
	"testing"

	"bulletin/api"
	"bulletin/base64"
)

const (
	alphabet = "ABCDEFGHIJKLMNOPQRSTUVWXYZabcdefghijklmnopqrstuvwxyz0123456789+/"
	maxText  = 174764 // base64.Size(base64.MaxBytes)
)

// someBytes returns n bytes that follow no simple pattern.
func someBytes(n int) []byte {
	b := make([]byte, n)
	x := uint32(2463534242)
	for i := range b {
		x ^= x << 13
		x ^= x >> 17
		x ^= x << 5
		b[i] = byte(x >> 11)
	}
	return b
}

// textsOf returns all texts of at most most characters out of letters.
func textsOf(letters string, most int) []string {
	all := []string{""}
	for from := 0; most > 0; most-- {
		to := len(all)
		for _, s := range all[from:to] {
			for i := range len(letters) {
				all = append(all, s+letters[i:i+1])
			}
		}
		from = to
	}
	return all
}

func TestP2_1Size(t *testing.T) {
	if base64.MaxBytes != 131072 || base64.MaxWidth != 998 {
		t.Error("the limits are not those of the document")
	}
	for n, want := range map[int]int{
		-1: 0, -3: 0, math.MinInt64: 0, 0: 0, 1: 4, 2: 4, 3: 4, 4: 8, 5: 8, 6: 8, 7: 12, 1300: 1736,
		131070: 174760, 131071: maxText, 131072: maxText, 131073: 0, 131074: 0, math.MaxInt64: 0, math.MaxInt64 - 1: 0,
	} {
		if got := base64.Size(n); got != want {
			t.Errorf("Size(%d) = %d, want %d", n, got, want)
		}
	}
	for n := range 200 {
		if s, _ := base64.Encode(make([]byte, n)); base64.Size(n) != len(s) {
			t.Errorf("Size(%d) = %d, but the encoding has %d characters", n, base64.Size(n), len(s))
		}
	}
}

func TestP2_2Encode(t *testing.T) {
	for plain, text := range map[string]string{
		"": "", "f": "Zg==", "fo": "Zm8=", "foo": "Zm9v", "foob": "Zm9vYg==", "fooba": "Zm9vYmE=", "foobar": "Zm9vYmFy",
		"\x00": "AA==", "\x00\x00": "AAA=", "\x00\x00\x00": "AAAA", "\xff": "/w==", "\xff\xff": "//8=", "\xff\xff\xff": "////", "\xff\xef\xbe": "/+++", "\x80": "gA==", "\x00\x01": "AAE=",
	} {
		if got, e := base64.Encode([]byte(plain)); got != text || e != api.OK {
			t.Errorf("Encode(%q) = %q, %d; want %q", plain, got, e, text)
		}
	}
	for v := range 64 {
		want := "A" + alphabet[v:v+1] + "AA"
		if got, e := base64.Encode([]byte{byte(v >> 4), byte(v << 4), 0}); got != want || e != api.OK {
			t.Errorf("the second character with the value %d: %q, %d", v, got, e)
		}
	}
	for n := range 300 {
		b := someBytes(n)
		if got, e := base64.Encode(b); got != standard.StdEncoding.EncodeToString(b) || e != api.OK {
			t.Errorf("Encode of %d bytes = %q, %d", n, got, e)
		}
	}
}

func TestP2_2EncodeLong(t *testing.T) {
	b := someBytes(base64.MaxBytes + 1)
	for _, n := range []int{base64.MaxBytes - 1, base64.MaxBytes} {
		if got, e := base64.Encode(b[:n]); got != standard.StdEncoding.EncodeToString(b[:n]) || e != api.OK {
			t.Errorf("Encode of %d bytes returns %d characters, %d", n, len(got), e)
		}
	}
	if got, e := base64.Encode(b); got != "" || e != api.ErrLong {
		t.Errorf("Encode of too many bytes returns %d characters, %d", len(got), e)
	}
}

// decoded returns what Decode has to return for a text that is not too long, by the definitions of the document.
func decoded(s string) (b []byte, at int, e api.Errno) {
	for i := range len(s) {
		lastOne := i == len(s)-1
		lastButOne := i == len(s)-2 && s[i+1] == '='
		inPlace := s[i] == '=' && len(s)%4 == 0 && (lastOne || lastButOne)
		if strings.IndexByte(alphabet, s[i]) < 0 && !inPlace {
			return nil, i, api.ErrByte
		}
	}
	if len(s)%4 != 0 {
		return nil, len(s), api.ErrShort
	}
	data := strings.TrimRight(s, "=")
	var bits []byte
	for i := range len(data) {
		for shift := 5; shift >= 0; shift-- {
			bits = append(bits, byte(strings.IndexByte(alphabet, data[i])>>shift&1))
		}
	}
	for ; len(bits) >= 8; bits = bits[8:] {
		c := byte(0)
		for _, bit := range bits[:8] {
			c = c<<1 | bit
		}
		b = append(b, c)
	}
	if bytes.IndexByte(bits, 1) >= 0 {
		return nil, len(data) - 1, api.ErrFormat
	}
	return b, 0, api.OK
}

// TestP2_3DecodeByDefinition compares Decode with the definitions for all short texts of a few characters.
func TestP2_3DecodeByDefinition(t *testing.T) {
	texts := textsOf("AQgw/=-", 5)
	for _, s := range textsOf("AQ=", 4) {
		texts = append(texts, "Zm9v"+s, "Z=9v"+s, "Zm9v Zm9v"+s)
	}
	for _, s := range textsOf("A=\n", 8) {
		texts = append(texts, s)
	}
	for _, s := range texts {
		wantB, wantAt, wantE := decoded(s)
		b, at, e := base64.Decode(s)
		if !bytes.Equal(b, wantB) || at != wantAt || e != wantE {
			t.Fatalf("Decode(%q) = %v, %d, %d; want %v, %d, %d", s, b, at, e, wantB, wantAt, wantE)
		}
		if got := base64.Valid(s); got != (wantE == api.OK) {
			t.Fatalf("Valid(%q) = %v", s, got)
		}
	}
}

func TestP2_3DecodeErrors(t *testing.T) {
	for _, c := range []struct {
		text string
		at   int
		e    api.Errno
	}{
		{"Zm9=", 2, api.ErrFormat}, {"Zg=", 2, api.ErrByte}, {"Zg", 2, api.ErrShort}, {"Z", 1, api.ErrShort}, {"Zm9", 3, api.ErrShort}, {"Zm9vZ", 5, api.ErrShort},
		{"=", 0, api.ErrByte}, {"==", 0, api.ErrByte}, {"===", 0, api.ErrByte}, {"====", 0, api.ErrByte}, {"Z===", 1, api.ErrByte}, {"Zg==Zg==", 2, api.ErrByte}, {"Zg=a", 2, api.ErrByte}, {"Zm9vZg===", 6, api.ErrByte}, {"Z=", 1, api.ErrByte}, {"Zm9v=", 4, api.ErrByte}, {"Zm9v==", 4, api.ErrByte}, {"Zm9v====", 4, api.ErrByte},
		{"Z g=", 1, api.ErrByte}, {"Zm9v\n", 4, api.ErrByte}, {"\nZm9v", 0, api.ErrByte}, {"Zm-v", 2, api.ErrByte}, {"Zm_v", 2, api.ErrByte}, {"Zm\xff", 2, api.ErrByte}, {"Zm.\x00", 2, api.ErrByte}, {"Zm9\u00e9", 3, api.ErrByte},
		{"Zh==", 1, api.ErrFormat}, {"Zi==", 1, api.ErrFormat}, {"Zk==", 1, api.ErrFormat}, {"Zo==", 1, api.ErrFormat}, {"Zm9vZh==", 5, api.ErrFormat}, {"Zm9vZm9=", 6, api.ErrFormat}, {"Zm+=", 2, api.ErrFormat}, {"AAB=", 2, api.ErrFormat}, {"AAC=", 2, api.ErrFormat}, {"A/==", 1, api.ErrFormat},
		{"Zh==Zg", 2, api.ErrByte},
	} {
		if b, at, e := base64.Decode(c.text); len(b) != 0 || at != c.at || e != c.e || base64.Valid(c.text) {
			t.Errorf("Decode(%q) = %v, %d, %d; want %d, %d", c.text, b, at, e, c.at, c.e)
		}
	}
	for i := range 256 {
		_, at, e := base64.Decode("A" + string([]byte{byte(i)}) + "AA")
		if strings.IndexByte(alphabet, byte(i)) >= 0 {
			if at != 0 || e != api.OK {
				t.Errorf("the character %d: %d, %d", i, at, e)
			}
		} else if at != 1 || e != api.ErrByte {
			t.Errorf("the byte %d: %d, %d", i, at, e)
		}
	}
}

// TestP2_3DecodeLong checks the limit: a text without = that has the length of the longest encoding yields one byte more.
func TestP2_3DecodeLong(t *testing.T) {
	all := someBytes(base64.MaxBytes + 1)
	full := standard.StdEncoding.EncodeToString(all)
	if len(full) != maxText {
		t.Fatalf("%d characters", len(full))
	}
	if b, at, e := base64.Decode(full); !bytes.Equal(b, all) || at != 0 || e != api.OK || !base64.Valid(full) {
		t.Errorf("Decode of the longest text returns %d bytes, %d, %d", len(b), at, e)
	}
	most, _ := base64.Encode(all[:base64.MaxBytes])
	if b, at, e := base64.Decode(most); !bytes.Equal(b, all[:base64.MaxBytes]) || at != 0 || e != api.OK {
		t.Errorf("Decode of the longest encoding returns %d bytes, %d, %d", len(b), at, e)
	}
	for _, s := range []string{full + "A", full + "AAAA", "!" + full, full + "="} {
		if b, at, e := base64.Decode(s); len(b) != 0 || at != 0 || e != api.ErrLong || base64.Valid(s) {
			t.Errorf("Decode of %d characters returns %d bytes, %d, %d", len(s), len(b), at, e)
		}
	}
	if _, at, e := base64.Decode(full[:maxText-1] + "!"); at != maxText-1 || e != api.ErrByte {
		t.Errorf("a byte that is not permitted at the end: %d, %d", at, e)
	}
	if _, at, e := base64.Decode(full[:maxText-1]); at != maxText-1 || e != api.ErrShort {
		t.Errorf("a long text that is too short: %d, %d", at, e)
	}
}

func TestP2_4Wrap(t *testing.T) {
	for _, c := range []struct {
		s     string
		width int
		want  string
	}{
		{"abcde", 2, "ab\ncd\ne\n"}, {"abcd", 2, "ab\ncd\n"}, {"abcde", 1, "a\nb\nc\nd\ne\n"}, {"abcde", 5, "abcde\n"}, {"abcde", 4, "abcd\ne\n"}, {"abcde", 6, "abcde\n"}, {"abcde", 998, "abcde\n"},
		{"", 1, ""}, {"", 998, ""}, {"a", 1, "a\n"}, {"\u00e9\u00e9", 3, "\u00e9\xc3\n\xa9\n"}, {" \r\t=!\x00\xff", 2, " \r\n\t=\n!\x00\n\xff\n"},
	} {
		if got, e := base64.Wrap(c.s, c.width); got != c.want || e != api.OK {
			t.Errorf("Wrap(%q, %d) = %q, %d; want %q", c.s, c.width, got, e, c.want)
		}
	}
	for n := range 40 {
		s := strings.Repeat("x", n)
		for width := 1; width < 45; width++ {
			var want string
			for rest := s; rest != ""; {
				k := min(width, len(rest))
				want, rest = want+rest[:k]+"\n", rest[k:]
			}
			if got, e := base64.Wrap(s, width); got != want || e != api.OK {
				t.Fatalf("Wrap(%q, %d) = %q, %d", s, width, got, e)
			}
		}
	}
	full := strings.Repeat("y", maxText)
	if got, e := base64.Wrap(full, 998); e != api.OK || len(got) != maxText+176 || got[998] != '\n' || strings.Count(got, "\n") != 176 || !strings.HasSuffix(got, "\n"+strings.Repeat("y", maxText-175*998)+"\n") {
		t.Errorf("Wrap of the longest text returns %d bytes, %d", len(got), e)
	}
}

func TestP2_4WrapErrors(t *testing.T) {
	long := strings.Repeat("y", maxText+1)
	for _, c := range []struct {
		s     string
		width int
		e     api.Errno
	}{
		{"abc", 0, api.ErrRange}, {"abc", -1, api.ErrRange}, {"abc", 999, api.ErrRange}, {"abc", math.MaxInt64, api.ErrRange}, {"abc", math.MinInt64, api.ErrRange}, {"", 0, api.ErrRange}, {"", 999, api.ErrRange},
		{long, 0, api.ErrRange}, {"a\n", 999, api.ErrRange}, {long, 998, api.ErrLong}, {long, 1, api.ErrLong}, {"\n" + long, 5, api.ErrLong}, {"a\nb", 5, api.ErrByte}, {"\n", 1, api.ErrByte}, {"abc\n", 3, api.ErrByte}, {"abc\n", 998, api.ErrByte},
	} {
		if got, e := base64.Wrap(c.s, c.width); got != "" || e != c.e {
			t.Errorf("Wrap of %d bytes, width %d, returns %d bytes, %d; want %d", len(c.s), c.width, len(got), e, c.e)
		}
	}
}

// unwrapped returns what Unwrap has to return for a text that exceeds no limit, by the definition of the document.
func unwrapped(s string) (string, int, api.Errno) {
	if s == "" {
		return "", 0, api.OK
	}
	if s[len(s)-1] != '\n' {
		return "", len(s), api.ErrShort
	}
	lines := strings.Split(s[:len(s)-1], "\n")
	at := 0
	for i, line := range lines {
		if len(line) == 0 || len(line) > len(lines[0]) || len(line) < len(lines[0]) && i < len(lines)-1 {
			return "", at, api.ErrFormat
		}
		at += len(line) + 1
	}
	return strings.Join(lines, ""), 0, api.OK
}

// TestP2_5UnwrapByDefinition compares Unwrap with its definition and with Wrap for all short texts.
func TestP2_5UnwrapByDefinition(t *testing.T) {
	for _, s := range append(textsOf("a\n", 12), textsOf("a \n=", 5)...) {
		want, wantAt, wantE := unwrapped(s)
		got, at, e := base64.Unwrap(s)
		if got != want || at != wantAt || e != wantE {
			t.Fatalf("Unwrap(%q) = %q, %d, %d; want %q, %d, %d", s, got, at, e, want, wantAt, wantE)
		}
		result := false
		for width := 1; width <= len(s)+1; width++ {
			wrapped, _ := base64.Wrap(strings.ReplaceAll(s, "\n", ""), width)
			result = result || wrapped == s
		}
		if result != (e == api.OK) {
			t.Fatalf("Unwrap(%q) returns %d, but a result of Wrap: %v", s, e, result)
		}
	}
}

func TestP2_5UnwrapErrors(t *testing.T) {
	line := strings.Repeat("x", 998) + "\n"
	for _, c := range []struct {
		s  string
		at int
		e  api.Errno
	}{
		{"ab\ncd", 5, api.ErrShort}, {"a", 1, api.ErrShort}, {"\na", 2, api.ErrShort}, {"ab\nc\nde\n", 3, api.ErrFormat}, {"\n", 0, api.ErrFormat}, {"\n\n", 0, api.ErrFormat}, {"ab\n\n", 3, api.ErrFormat}, {"ab\n\ncd\n", 3, api.ErrFormat}, {"ab\ncd\n\n", 6, api.ErrFormat},
		{"ab\nabc\n", 3, api.ErrFormat}, {"ab\nab\nabc\n", 6, api.ErrFormat}, {"ab\nabc\na\n", 3, api.ErrFormat}, {"ab\na\nab", 7, api.ErrShort}, {"ab\nc\nd\n", 3, api.ErrFormat}, {"abc\nab\na\n", 4, api.ErrFormat},
		{"x" + line, 0, api.ErrFormat}, {line + "x" + line, 999, api.ErrFormat}, {"x" + line + "\n", 0, api.ErrFormat}, {strings.Repeat("x", 998) + "yz\nab\n", 0, api.ErrFormat}, {"a\n" + line, 2, api.ErrFormat},
	} {
		if got, at, e := base64.Unwrap(c.s); got != "" || at != c.at || e != c.e {
			t.Errorf("Unwrap(%.20q) = %.20q, %d, %d; want %d, %d", c.s, got, at, e, c.at, c.e)
		}
	}
	for _, s := range []string{line, line + line, line + "x\n", line + line + line[1:]} {
		if got, at, e := base64.Unwrap(s); got != strings.ReplaceAll(s, "\n", "") || at != 0 || e != api.OK {
			t.Errorf("Unwrap of %d bytes returns %d bytes, %d, %d", len(s), len(got), at, e)
		}
	}
}

// TestP2_5UnwrapLong checks both limits of Unwrap.
func TestP2_5UnwrapLong(t *testing.T) {
	full := strings.Repeat("y", maxText)
	for _, width := range []int{1, 2, 76, 997, 998} {
		s, _ := base64.Wrap(full, width)
		if got, at, e := base64.Unwrap(s); got != full || at != 0 || e != api.OK {
			t.Errorf("Unwrap of the longest text with the width %d returns %d bytes, %d, %d", width, len(got), at, e)
		}
	}
	line := strings.Repeat("x", 998) + "\n"
	wide := strings.Repeat(line, 175) // 174650 bytes without the line feeds
	rest := strings.Repeat("x", 114)  // as many as may be added
	narrow := strings.Repeat("y\n", maxText)
	for _, c := range []struct {
		name, s string
		at      int
		e       api.Errno
	}{
		{"no byte too many", wide + rest + "\n", 0, api.OK},
		{"a byte too many", wide + rest + "x\n", 0, api.ErrLong},
		{"a line too many", wide + line, 0, api.ErrLong},
		{"a byte too many, and an empty line", wide + line + "\n", len(wide + line), api.ErrFormat},
		{"a byte too many, and no line feed", wide + line + "x", len(wide+line) + 1, api.ErrShort},
		{"a text of the greatest length", narrow, 0, api.OK},
		{"an empty line in it", narrow[:len(narrow)-2] + "\n\n", len(narrow) - 2, api.ErrFormat},
		{"no line feed in it", strings.Repeat("y", 2*maxText), 2 * maxText, api.ErrShort},
		{"one line of the greatest length", strings.Repeat("y", 2*maxText-1) + "\n", 0, api.ErrFormat},
		{"a longer text", narrow + "y\n", 0, api.ErrLong},
		{"a longer text without a last line feed", narrow + "y", 0, api.ErrLong},
		{"a longer text of one line", strings.Repeat("y", 2*maxText) + "\n", 0, api.ErrLong},
		{"a longer text with an empty line", narrow + "\n", 0, api.ErrLong},
	} {
		got, at, e := base64.Unwrap(c.s)
		if at != c.at || e != c.e || e != api.OK && got != "" || e == api.OK && got != strings.ReplaceAll(c.s, "\n", "") {
			t.Errorf("%s: %d bytes, %d, %d; want %d, %d", c.name, len(got), at, e, c.at, c.e)
		}
	}
}

// TestP2_6Pieces writes texts in all divisions of a few bytes, with an encoder of each kind.
func TestP2_6Pieces(t *testing.T) {
	all := []byte("foobar\xff\x00!")
	for n := range len(all) + 1 {
		want := standard.StdEncoding.EncodeToString(all[:n])
		for cuts := range 1 << max(n-1, 0) {
			var zero base64.Encoder
			e := &zero
			if cuts%2 == 0 {
				e = base64.NewEncoder()
			}
			text, from := "", 0
			for to := 1; to <= n; to++ {
				if to < n && cuts>>(to-1)&1 == 0 {
					continue
				}
				s, err := e.Write(all[from:to])
				text, from = text+s, to
				if err != api.OK || e.Len() != to || text != want[:to/3*4] {
					t.Fatalf("after %d of %d bytes, division %b: %q, %d, Len %d", to, n, cuts, text, err, e.Len())
				}
			}
			s, err := e.Close()
			if text+s != want || err != api.OK || e.Len() != n {
				t.Fatalf("%d bytes, division %b: %q, %d; want %q", n, cuts, text+s, err, want)
			}
		}
	}
}

func TestP2_6EmptyPieces(t *testing.T) {
	e := base64.NewEncoder()
	for i, c := range []struct {
		piece, want string
		n           int
	}{{"", "", 0}, {"f", "", 1}, {"", "", 1}, {"o", "", 2}, {"", "", 2}, {"o", "Zm9v", 3}, {"", "", 3}, {"obar!", "b2Jh", 8}, {"", "", 8}} {
		if s, err := e.Write([]byte(c.piece)); s != c.want || err != api.OK || e.Len() != c.n {
			t.Errorf("%d: %q, %d, Len %d", i, s, err, e.Len())
		}
	}
	if s, err := e.Close(); s != "ciE=" || err != api.OK {
		t.Errorf("Close = %q, %d", s, err)
	}
	empty := base64.NewEncoder()
	if s, err := empty.Close(); s != "" || err != api.OK || empty.Len() != 0 {
		t.Errorf("Close without bytes = %q, %d", s, err)
	}
}

func TestP2_6Closed(t *testing.T) {
	e := base64.NewEncoder()
	e.Write([]byte("fo"))
	e.Close()
	for range 2 {
		for _, b := range [][]byte{nil, []byte("x"), []byte("xyz"), make([]byte, base64.MaxBytes+1)} {
			if s, err := e.Write(b); s != "" || err != api.ErrState || e.Len() != 2 {
				t.Errorf("Write of %d bytes after Close = %q, %d, Len %d", len(b), s, err, e.Len())
			}
		}
		if s, err := e.Close(); s != "" || err != api.ErrState || e.Len() != 2 {
			t.Errorf("Close after Close = %q, %d, Len %d", s, err, e.Len())
		}
	}
}

func TestP2_6NilEncoder(t *testing.T) {
	var e *base64.Encoder
	for _, b := range [][]byte{nil, []byte("abc"), make([]byte, base64.MaxBytes+1)} {
		if s, err := e.Write(b); s != "" || err != api.ErrArgument {
			t.Errorf("Write = %q, %d", s, err)
		}
	}
	if s, err := e.Close(); s != "" || err != api.ErrArgument || e.Len() != 0 {
		t.Errorf("Close = %q, %d, Len %d", s, err, e.Len())
	}
}

// TestP2_6Long checks that an encoder takes MaxBytes bytes and that what it refuses changes nothing.
func TestP2_6Long(t *testing.T) {
	all := someBytes(base64.MaxBytes + 1)
	want := standard.StdEncoding.EncodeToString(all[:base64.MaxBytes])
	e := base64.NewEncoder()
	if s, err := e.Write(all); s != "" || err != api.ErrLong || e.Len() != 0 {
		t.Errorf("Write of too many bytes at once: %d characters, %d, Len %d", len(s), err, e.Len())
	}
	text, err := e.Write(all[:1000])
	if err != api.OK {
		t.Errorf("Write = %d", err)
	}
	if s, err := e.Write(all[1000:]); s != "" || err != api.ErrLong || e.Len() != 1000 {
		t.Errorf("Write of a byte too many: %d characters, %d, Len %d", len(s), err, e.Len())
	}
	s, err := e.Write(all[1000:base64.MaxBytes])
	if err != api.OK || e.Len() != base64.MaxBytes {
		t.Errorf("Write of the last byte: %d, Len %d", err, e.Len())
	}
	text += s
	if s, err := e.Write(all[:1]); s != "" || err != api.ErrLong || e.Len() != base64.MaxBytes {
		t.Errorf("Write after the last byte: %q, %d, Len %d", s, err, e.Len())
	}
	if s, err := e.Write(nil); s != "" || err != api.OK {
		t.Errorf("Write of nothing after the last byte: %q, %d", s, err)
	}
	if s, err := e.Close(); text+s != want || err != api.OK {
		t.Errorf("Close = %q, %d", s, err)
	}
	whole := base64.NewEncoder()
	first, err := whole.Write(all[:base64.MaxBytes])
	if last, _ := whole.Close(); err != api.OK || first+last != want {
		t.Errorf("all bytes at once: %d characters, %d", len(first), err)
	}
}

func TestP2_7Consequences(t *testing.T) {
	b := someBytes(400)
	for n := range b {
		s, _ := base64.Encode(b[:n])
		if got, at, e := base64.Decode(s); !bytes.Equal(got, b[:n]) || at != 0 || e != api.OK || !base64.Valid(s) {
			t.Fatalf("Decode of Encode of %d bytes = %v, %d, %d", n, got, at, e)
		}
		for _, k := range []int{0, 3, n / 6 * 3, n / 3 * 3} {
			if k <= n {
				head, _ := base64.Encode(b[:k])
				tail, _ := base64.Encode(b[k:n])
				if head+tail != s {
					t.Fatalf("Encode of %d bytes is not the concatenation at %d", n, k)
				}
			}
		}
	}
	for _, s := range textsOf("AZg8=", 4) {
		if got, _, e := base64.Decode(s); e == api.OK {
			if again, _ := base64.Encode(got); again != s {
				t.Fatalf("%q is accepted, but the encoding of the result is %q", s, again)
			}
		}
	}
}

// TestP2_7NewMemory checks that arguments are neither modified nor retained, and that results are new.
func TestP2_7NewMemory(t *testing.T) {
	b := append(make([]byte, 0, 100), "foob"...)
	base64.Encode(b)
	e := base64.NewEncoder()
	first, _ := e.Write(b)
	if string(b) != "foob" || string(b[:9]) != "foob\x00\x00\x00\x00\x00" {
		t.Errorf("the argument was changed: %q", b[:9])
	}
	b[3], b[0] = 'x', 'y'
	second, _ := e.Write([]byte("ar"))
	if first+second != "Zm9vYmFy" {
		t.Errorf("the argument was retained: %q", first+second)
	}
	one, _, _ := base64.Decode("Zm9v")
	one[0] = 'x'
	if two, _, _ := base64.Decode("Zm9v"); string(two) != "foo" {
		t.Errorf("Decode after a change of an earlier result: %q", two)
	}
}

// TestP2_7Independent checks that encoders share nothing.
func TestP2_7Independent(t *testing.T) {
	a, b := base64.NewEncoder(), base64.NewEncoder()
	a.Write([]byte("fo"))
	b.Write([]byte("x"))
	s, _ := a.Write([]byte("o"))
	u, _ := b.Close()
	if s != "Zm9v" || u != "eA==" || a.Len() != 3 || b.Len() != 1 {
		t.Errorf("%q, %q, Len %d and %d", s, u, a.Len(), b.Len())
	}
}
