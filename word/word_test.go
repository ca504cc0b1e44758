package word_test

import (
	"encoding/base64"
	"encoding/hex"
	"math/rand"
	"strings"
	"testing"
	"unicode/utf8"

	"bulletin/api"
	"bulletin/word"
)

// This file and text_test.go have the terms of the chapter once more, over the standard library's UTF-8 and base64.

const itself = "abcdefghijklmnopqrstuvwxyzABCDEFGHIJKLMNOPQRSTUVWXYZ0123456789!*+-/"

func printable(s string) bool {
	for i := range len(s) {
		if s[i] <= 31 || s[i] == 127 {
			return false
		}
	}
	return utf8.ValidString(s)
}

func plain(s string) bool {
	for i := range len(s) {
		if s[i] > 127 {
			return false
		}
	}
	return printable(s) && strings.Index(s, "=?") < 0
}

// encoded is the encoded word of a text, however long it is.
func encoded(s string, encoding int) string {
	if encoding == 0 {
		return "=?utf-8?B?" + base64.StdEncoding.EncodeToString([]byte(s)) + "?="
	}
	data := ""
	for i := range len(s) {
		switch {
		case strings.Contains(itself, s[i:i+1]):
			data += s[i : i+1]
		case s[i] == ' ':
			data += "_"
		default:
			data += "=" + strings.ToUpper(hex.EncodeToString([]byte(s[i:i+1])))
		}
	}
	return "=?utf-8?Q?" + data + "?="
}

// quoted is the text of some data with Q.
func quoted(data string) (string, bool) {
	text := ""
	for data != "" {
		n := 1
		switch {
		case strings.Contains(itself, data[:1]):
			text += data[:1]
		case data[0] == '_':
			text += " "
		case data[0] == '=' && len(data) >= 3 && strings.Trim(data[1:3], "0123456789ABCDEF") == "":
			b, _ := hex.DecodeString(data[1:3])
			text, n = text+string(b), 3
		default:
			return "", false
		}
		data = data[n:]
	}
	return text, true
}

// parse is what Parse returns by the words of the chapter.
func parse(s string) (string, int, api.Errno) {
	if len(s) > 75 {
		return "", 0, api.ErrLong
	}
	if len(s) < 12 || s[len(s)-2:] != "?=" {
		return "", 0, api.ErrFormat
	}
	text, encoding, ok, data := "", 0, false, s[10:len(s)-2]
	switch strings.ToLower(s[:10]) {
	case "=?utf-8?b?":
		b, err := base64.StdEncoding.Strict().DecodeString(data)
		text, ok = string(b), err == nil && !strings.ContainsAny(data, "\r\n")
	case "=?utf-8?q?":
		encoding = 1
		text, ok = quoted(data)
	}
	if !ok || text == "" || !printable(text) {
		return "", 0, api.ErrFormat
	}
	return text, encoding, api.OK
}

// checkParse compares Parse with the model.
func checkParse(t *testing.T, s string) api.Errno {
	t.Helper()
	want, wantEncoding, wanted := parse(s)
	if got, encoding, e := word.Parse(s); got != want || encoding != wantEncoding || e != wanted {
		t.Fatalf("Parse(%q) = %q, %d, %d, want %q, %d, %d", s, got, encoding, e, want, wantEncoding, wanted)
	}
	return wanted
}

// checkWord compares Word with the model, for a text and both encodings.
func checkWord(t *testing.T, s string) {
	t.Helper()
	for _, encoding := range []int{word.B, word.Q} {
		want, wanted := encoded(s, encoding), api.OK
		switch {
		case s == "":
			wanted = api.ErrArgument
		case !printable(s):
			wanted = api.ErrByte
		case len(want) > 75:
			wanted = api.ErrLong
		}
		if wanted != api.OK {
			want = ""
		}
		if got, e := word.Word(s, encoding); got != want || e != wanted {
			t.Fatalf("Word(%q, %d) = %q, %d, want %q, %d", s, encoding, got, e, want, wanted)
		}
		if wanted != api.OK {
			continue
		}
		if text, got, e := word.Parse(want); text != s || got != encoding || e != api.OK {
			t.Fatalf("Parse(%q) = %q, %d, %d, want %q, %d", want, text, got, e, s, encoding)
		}
	}
}

// textsOf returns all texts of up to so many parts.
func textsOf(most int, parts ...string) []string {
	all, from := []string{""}, 0
	for range most {
		to := len(all)
		for _, s := range all[from:to] {
			for _, part := range parts {
				all = append(all, s+part)
			}
		}
		from = to
	}
	return all
}

// randomText returns a printable text of up to so many characters.
func randomText(random *rand.Rand, most int) string {
	characters := []rune{'a', 'Z', '0', ' ', '=', '?', '_', '!', '~', 0x80, 0x85, 0xE4, 0x7FF, 0x800, 0x2028, 0x20AC, 0xFFFD, 0xFFFF, 0x10000, 0x1F600, 0x10FFFF}
	from := random.Intn(len(characters))
	to := from + 1 + random.Intn(len(characters)-from)
	text := ""
	for range random.Intn(most + 1) {
		text += string(characters[from+random.Intn(to-from)])
	}
	return text
}

// wrong returns texts that are not printable.
func wrong() []string {
	return []string{"\x00", "a\n", "\t", "\x1f\u00e4", "\x7f", "\u00e4\x7f", "\x80", "\xc3", "\xc3\x28", "a\xff", "\xed\xa0\x80", "\xc0\x80", "\xf4\x90\x80\x80", "\u00e4\xc3"}
}

func TestP10_1Types(t *testing.T) {
	if word.MaxWord != 75 || word.MaxText != 4096 || word.B != 0 || word.Q != 1 {
		t.Error("the constants are not those of the document")
	}
	if p := (word.Place{From: 1, To: 2}); p != (word.Place{1, 2}) {
		t.Error("a place has other parts than those of the document")
	}
}

func TestP10_1Plain(t *testing.T) {
	check := func(s string, want bool) {
		t.Helper()
		if got := word.Plain(s); got != want || want != plain(s) {
			t.Errorf("Plain(%q) = %t", s, got)
		}
	}
	for c := range 256 {
		b := string([]byte{byte(c)})
		for _, s := range []string{b, b + "abc", "a" + b + "c", "abc" + b} {
			check(s, c >= 32 && c < 127)
		}
	}
	for _, s := range []string{"", " ", "plain text", "=", "?", "= ?", "?=", "=a?", "?=a", "a?=b", "~!@#$%^&*()_+"} {
		check(s, true)
	}
	for _, s := range append(wrong(), "=?", "a=?", "=?a", "==?", "=??=", "a =? b", "\u00e4", "a\u20ac", "\u0080", "\U0001F600") {
		check(s, false)
	}
	for _, s := range textsOf(5, "a", "=", "?", " ", "\u00e4", "\n") {
		check(s, plain(s))
	}
	check(strings.Repeat("a", 100000), true)
	check(strings.Repeat("a", 100000)+"=?", false)
}

func TestP10_2Word(t *testing.T) {
	for _, s := range textsOf(4, "a", "Z", "9", " ", "_", "=", "?", "!", "\u00e4", "\u20ac", "\U0001F600") {
		checkWord(t, s)
	}
	for c := 1; c < 0x3000; c++ {
		checkWord(t, string(rune(c)))
	}
	for c := range 256 {
		checkWord(t, string([]byte{byte(c)}))
		checkWord(t, "\u00e4"+string([]byte{byte(c)}))
	}
	random := rand.New(rand.NewSource(102))
	for range 5000 {
		checkWord(t, randomText(random, 30))
	}
	for _, s := range wrong() {
		checkWord(t, s)
		checkWord(t, strings.Repeat("a", 80)+s)
	}
}

// TestP10_2Values has words that are written out.
func TestP10_2Values(t *testing.T) {
	for _, c := range []struct{ s, b, q string }{
		{"na\u00efve", "=?utf-8?B?bmHDr3Zl?=", "=?utf-8?Q?na=C3=AFve?="},
		{"a", "=?utf-8?B?YQ==?=", "=?utf-8?Q?a?="},
		{" ", "=?utf-8?B?IA==?=", "=?utf-8?Q?_?="},
		{"_=?", "=?utf-8?B?Xz0/?=", "=?utf-8?Q?=5F=3D=3F?="},
		{"!*+-/.", "=?utf-8?B?ISorLS8u?=", "=?utf-8?Q?!*+-/=2E?="},
		{"\u20ac\U0001F600", "=?utf-8?B?4oKs8J+YgA==?=", "=?utf-8?Q?=E2=82=AC=F0=9F=98=80?="},
	} {
		if got, e := word.Word(c.s, word.B); got != c.b || e != api.OK {
			t.Errorf("Word(%q, B) = %q, %d", c.s, got, e)
		}
		if got, e := word.Word(c.s, word.Q); got != c.q || e != api.OK {
			t.Errorf("Word(%q, Q) = %q, %d", c.s, got, e)
		}
	}
}

// TestP10_2Long has words of about MaxWord bytes.
func TestP10_2Long(t *testing.T) {
	for n := range 90 {
		for _, c := range []string{"a", " ", "=", "\u00e4", "\u20ac", "\U0001F600"} {
			checkWord(t, strings.Repeat(c, n))
			checkWord(t, "a"+strings.Repeat(c, n))
			checkWord(t, strings.Repeat(c, n)+"aa")
		}
	}
	for _, c := range []struct {
		s        string
		encoding int
		want     api.Errno
	}{
		{strings.Repeat("a", 45), word.B, api.OK}, {strings.Repeat("a", 46), word.B, api.ErrLong},
		{strings.Repeat("a", 63), word.Q, api.OK}, {strings.Repeat("a", 64), word.Q, api.ErrLong},
		{strings.Repeat("=", 21), word.Q, api.OK}, {strings.Repeat("=", 22), word.Q, api.ErrLong},
		{strings.Repeat("a", 75), word.Q, api.ErrLong}, {strings.Repeat("a", 76), word.Q, api.ErrLong},
		{strings.Repeat("a", 1<<17), word.B, api.ErrLong}, {strings.Repeat("a", 1<<17+1), word.B, api.ErrLong}, {strings.Repeat("\u00e4", 1<<17), word.Q, api.ErrLong},
	} {
		if got, e := word.Word(c.s, c.encoding); e != c.want || (got == "") != (e != api.OK) {
			t.Errorf("Word of %d bytes = %q, %d, want %d", len(c.s), got, e, c.want)
		}
	}
}

// badEncodings are no encodings.
var badEncodings = []int{-1, 2, 3, 66, 81, 256, 257, 1 << 32, 1<<32 + 1, -1 << 63}

// TestP10_2Order checks that the errors of Word come in their order.
func TestP10_2Order(t *testing.T) {
	for _, encoding := range badEncodings {
		for _, s := range []string{"", "a", "\n", "\u00e4", strings.Repeat("a", 5000)} {
			if got, e := word.Word(s, encoding); got != "" || e != api.ErrRange {
				t.Errorf("Word(%.20q, %d) = %q, %d", s, encoding, got, e)
			}
		}
	}
	for _, encoding := range []int{word.B, word.Q} {
		if got, e := word.Word("", encoding); got != "" || e != api.ErrArgument {
			t.Errorf("Word of nothing = %q, %d", got, e)
		}
		if got, e := word.Word(strings.Repeat("a", 200000)+"\n", encoding); got != "" || e != api.ErrByte {
			t.Errorf("Word of a long text that is not printable = %q, %d", got, e)
		}
	}
}

// TestP10_2ParseForms has all small data, and what is nearly an encoded word.
func TestP10_2ParseForms(t *testing.T) {
	for _, data := range textsOf(4, "a", "_", "=", "4", "1", "C", "3", "A", "?", "c") {
		checkParse(t, "=?utf-8?Q?"+data+"?=")
	}
	for _, data := range textsOf(4, "A", "w", "6", "Q", "=", "+", "/", "g") {
		checkParse(t, "=?utf-8?B?"+data+"?=")
	}
	for _, whole := range []string{"=?utf-8?Q?a=C3=A4_b?=", "=?utf-8?B?w6TDpA==?=", "=?UTF-8?b?YWI=?=", "=?uTf-8?q?a?="} {
		if e := checkParse(t, whole); e != api.OK {
			t.Errorf("Parse(%q) = %d", whole, e)
		}
		for at := range len(whole) {
			checkParse(t, whole[:at])
			checkParse(t, whole[at:])
			checkParse(t, whole[:at]+whole[at+1:])
			for c := range 256 {
				checkParse(t, whole[:at]+string([]byte{byte(c)})+whole[at+1:])
				checkParse(t, whole[:at]+string([]byte{byte(c)})+whole[at:])
			}
		}
		checkParse(t, whole+" ")
		checkParse(t, " "+whole)
		checkParse(t, whole+whole)
	}
	for _, s := range []string{"", "?=", "=?", "=?=", "=?utf-8?Q?=", "=?utf-8?Q??=", "=?utf-8?B??=", "=?utf-8?B?=", "=?utf-8??=", "=?utf-8?Q", "=?utf-8*en?Q?a?=", "=?utf8?Q?a?=", "=?latin1?Q?a?=", "=?utf-8?X?a?=", "=?utf-8?BQ?YQ==?=", "=?utf-8?\u1d2e?YQ==?="} {
		if e := checkParse(t, s); e != api.ErrFormat {
			t.Errorf("Parse(%q) = %d", s, e)
		}
	}
}

// TestP10_2Case has each letter as a capital and as a small one, whatever the others are.
func TestP10_2Case(t *testing.T) {
	for _, u := range "uU" {
		for _, tee := range "tT" {
			for _, f := range "fF" {
				name := string(u) + string(tee) + string(f) + "-8"
				for _, c := range []struct {
					word     string
					encoding int
				}{{"?b?w6Q=?=", word.B}, {"?B?w6Q=?=", word.B}, {"?q?=C3=A4?=", word.Q}, {"?Q?=C3=A4?=", word.Q}} {
					if s, encoding, e := word.Parse("=?" + name + c.word); s != "\u00e4" || encoding != c.encoding || e != api.OK {
						t.Errorf("Parse(=?%s%s) = %q, %d, %d", name, c.word, s, encoding, e)
					}
				}
			}
		}
	}
}

// TestP10_2Texts has data that denote texts that are empty or not printable.
func TestP10_2Texts(t *testing.T) {
	for _, s := range wrong() {
		for _, encoding := range []int{word.B, word.Q} {
			if got, n, e := word.Parse(encoded(s, encoding)); got != "" || n != 0 || e != api.ErrFormat {
				t.Errorf("Parse(%q) = %q, %d, %d", encoded(s, encoding), got, n, e)
			}
		}
	}
	for c := range 256 {
		checkParse(t, encoded(string([]byte{byte(c)}), word.B))
		checkParse(t, encoded(string([]byte{byte(c)}), word.Q))
		checkParse(t, "=?utf-8?Q?="+strings.ToUpper(hex.EncodeToString([]byte{byte(c)}))+"?=")
		checkParse(t, "=?utf-8?Q?="+hex.EncodeToString([]byte{byte(c)})+"?=")
	}
	for _, s := range []string{"=?utf-8?B?YQ=?=", "=?utf-8?B?YQ?=", "=?utf-8?B?YR==?=", "=?utf-8?B?Y\nQ==?=", "=?utf-8?B?YQ== ?=", "=?utf-8?B?YQ==YQ==?=", "=?utf-8?Q?=4?=", "=?utf-8?Q?=?=", "=?utf-8?Q?a b?=", "=?utf-8?Q?=c3=a4?=", "=?utf-8?Q?a.b?=", "=?utf-8?Q?=C3?=", "=?utf-8?Q?a=C3=A4=C3?="} {
		if e := checkParse(t, s); e != api.ErrFormat {
			t.Errorf("Parse(%q) = %d", s, e)
		}
	}
}

// TestP10_2Digits has all pairs of bytes after a = before bytes that may complete a character.
func TestP10_2Digits(t *testing.T) {
	for c := range 1 << 16 {
		pair := string([]byte{byte(c >> 8), byte(c)})
		checkParse(t, "=?utf-8?Q?="+pair+"?=")
		checkParse(t, "=?utf-8?Q?="+pair+"=9F=98=80?=")
	}
}

func TestP10_2ParseLong(t *testing.T) {
	for n := 55; n < 90; n++ {
		checkParse(t, "=?utf-8?Q?"+strings.Repeat("a", n)+"?=")
		checkParse(t, strings.Repeat("a", n))
		checkParse(t, strings.Repeat("\xff", n))
	}
	if s, encoding, e := word.Parse("=?utf-8?Q?" + strings.Repeat("a", 63) + "?="); len(s) != 63 || encoding != word.Q || e != api.OK {
		t.Errorf("Parse of 75 bytes = %q, %d, %d", s, encoding, e)
	}
	for _, s := range []string{"=?utf-8?Q?" + strings.Repeat("a", 64) + "?=", "=?utf-8?B?" + strings.Repeat("YWFh", 16) + "?=", strings.Repeat("a", 76), strings.Repeat("\n", 1000000)} {
		if got, encoding, e := word.Parse(s); got != "" || encoding != 0 || e != api.ErrLong {
			t.Errorf("Parse of %d bytes = %q, %d, %d", len(s), got, encoding, e)
		}
	}
}
