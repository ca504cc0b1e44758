package ascii_test

import (
	"bytes"
	"math"
	"slices"
	"strconv"
	"strings"
	"testing"

	"bulletin/api"
	"bulletin/ascii"
)

const (
	lowers  = "abcdefghijklmnopqrstuvwxyz"
	uppers  = "ABCDEFGHIJKLMNOPQRSTUVWXYZ"
	digits  = "0123456789"
	symbols = "!\"#$%&'()*+,-./:;<=>?@[\\]^_`{|}~"
)

// everyByte is the string of all bytes in their order.
func everyByte() string {
	b := make([]byte, 256)
	for i := range b {
		b[i] = byte(i)
	}
	return string(b)
}

// TestP1_1Classes checks each class for every byte.
func TestP1_1Classes(t *testing.T) {
	for _, class := range []struct {
		name    string
		is      func(byte) bool
		members string
	}{
		{"IsLower", ascii.IsLower, lowers},
		{"IsUpper", ascii.IsUpper, uppers},
		{"IsLetter", ascii.IsLetter, lowers + uppers},
		{"IsDigit", ascii.IsDigit, digits},
		{"IsVisible", ascii.IsVisible, lowers + uppers + digits + symbols},
		{"IsBlank", ascii.IsBlank, " \t"},
	} {
		for i := range 256 {
			want := strings.IndexByte(class.members, byte(i)) >= 0
			if got := class.is(byte(i)); got != want {
				t.Errorf("%s(%d) = %v, want %v", class.name, i, got, want)
			}
		}
	}
}

func TestP1_1Printable(t *testing.T) {
	for i := range 256 {
		atEnd, beforeZero := -1, 3
		if i < 32 || i > 126 {
			atEnd, beforeZero = 2, 2
		}
		s := "a " + string([]byte{byte(i)})
		if got := ascii.Printable(s); got != atEnd {
			t.Errorf("Printable(%q) = %d, want %d", s, got, atEnd)
		}
		if got := ascii.Printable(s + "\x00~"); got != beforeZero {
			t.Errorf("Printable(%q) = %d, want %d", s+"\x00~", got, beforeZero)
		}
	}
	for s, want := range map[string]int{"": -1, " ": -1, "~ !": -1, "a\tb": 1, "\n": 0, "\x7f": 0, "abc\x80\xff": 3, "\u00e9": 0, "a b\n": 3} {
		if got := ascii.Printable(s); got != want {
			t.Errorf("Printable(%q) = %d, want %d", s, got, want)
		}
	}
}

func TestP1_2Lower(t *testing.T) {
	for i := range 256 {
		c := byte(i)
		want := c
		if at := strings.IndexByte(uppers, c); at >= 0 {
			want = lowers[at]
		}
		if got := ascii.Lower(string([]byte{c})); got != string([]byte{want}) {
			t.Errorf("Lower of the byte %d = %q", i, got)
		}
	}
	for s, want := range map[string]string{
		"":                     "",
		"Rec.BOATS":            "rec.boats",
		"AZaz@[`{":             "azaz@[`{",
		"\u00c9T\u00c9":        "\u00c9t\u00c9",
		"\u212a K \u0130":      "\u212a k \u0130",
		"\xff\xc3A\x80Z\x00\n": "\xff\xc3a\x80z\x00\n",
	} {
		if got := ascii.Lower(s); got != want {
			t.Errorf("Lower(%q) = %q, want %q", s, got, want)
		}
	}
	if got := ascii.Lower(everyByte()); len(got) != 256 || got[:65] != everyByte()[:65] || got[65:91] != lowers || got[91:] != everyByte()[91:] {
		t.Errorf("Lower of all bytes = %q", got)
	}
}

func TestP1_2EqualFold(t *testing.T) {
	for _, c := range []struct {
		a, b string
		want bool
	}{
		{"Re: A", "RE: a", true}, {"", "", true}, {"abc", "ABC", true}, {"a", "", false}, {"", "a", false}, {"ab", "a", false}, {"a", "ab", false},
		{"[", "{", false}, {"@", "`", false}, {"^", "~", false}, {"\x00", " ", false}, {"k", "\u212a", false}, {"s", "\u017f", false}, {"\u00e9", "\u00c9", false},
		{"\xc3", "\xe3", false}, {"\xff", "\xfe", false}, {"\xff", "\ufffd", false}, {"\xffA", "\xffa", true}, {"a\x00b", "A\x00B", true},
	} {
		if got := ascii.EqualFold(c.a, c.b); got != c.want {
			t.Errorf("EqualFold(%q, %q) = %v", c.a, c.b, got)
		}
	}
}

func TestP1_2CompareFold(t *testing.T) {
	for _, c := range []struct {
		a, b string
		want int
	}{
		{"B", "a", 1}, {"a", "B", -1}, {"AB", "ab", 0}, {"", "", 0}, {"", "a", -1}, {"A", "", 1}, {"ab", "ABC", -1}, {"ABC", "ab", 1},
		{"Z", "[", 1}, {"_", "A", -1}, {"_", "a", -1}, {"Z", "_", 1}, {"z", "Z", 0}, {"`", "A", -1}, {"{", "Z", 1}, {"@", "A", -1},
		{"\x80", "z", 1}, {"z", "\xff", -1}, {"\xff", "\x80", 1}, {"\x00", "", 1}, {"a\x00", "A", 1}, {"b", "aaaa", 1}, {"aZ", "Ab", 1}, {"xyZ1", "XYz2", -1},
	} {
		if got := ascii.CompareFold(c.a, c.b); got != c.want {
			t.Errorf("CompareFold(%q, %q) = %d, want %d", c.a, c.b, got, c.want)
		}
	}
}

func TestP1_2IndexFold(t *testing.T) {
	for _, c := range []struct {
		s, part string
		want    int
	}{
		{"Message-ID", "id", 8}, {"message-id", "ID", 8}, {"aAa", "AA", 0}, {"abc", "", 0}, {"", "", 0}, {"", "a", -1}, {"ab", "abc", -1}, {"abc", "ABC", 0}, {"abcabc", "C", 2},
		{"aaab", "AAB", 1}, {"abababc", "ABABC", 2}, {"xyz", "a", -1}, {"a[b", "{", -1}, {"a{b", "[", -1}, {"k", "\u212a", -1}, {"\u00e9\u00c9", "\u00c9", 2},
		{"\xffA\xff", "a\xff", 1}, {"\xff", "\ufffd", -1}, {"abC", "c", 2}, {"\x80\x81", "\x81", 1},
	} {
		if got := ascii.IndexFold(c.s, c.part); got != c.want {
			t.Errorf("IndexFold(%q, %q) = %d, want %d", c.s, c.part, got, c.want)
		}
	}
}

// stringsOf returns all strings of at most most characters out of letters.
func stringsOf(letters string, most int) []string {
	all := []string{""}
	for from := 0; most > 0; most-- {
		to := len(all)
		for _, s := range all[from:to] {
			for i := range len(letters) {
				all = append(all, s+letters[i:i+1])
			}
		}
		from = to
	}
	return all
}

// TestP1_2IndexFoldByDefinition compares IndexFold with a search that follows the definition.
func TestP1_2IndexFoldByDefinition(t *testing.T) {
	for _, s := range stringsOf("aAb", 5) {
		for _, part := range stringsOf("AbB", 3) {
			want := -1
			for i := 0; i+len(part) <= len(s) && want < 0; i++ {
				if ascii.EqualFold(s[i:i+len(part)], part) {
					want = i
				}
			}
			if got := ascii.IndexFold(s, part); got != want {
				t.Fatalf("IndexFold(%q, %q) = %d, want %d", s, part, got, want)
			}
		}
	}
}

func TestP1_3Words(t *testing.T) {
	for _, c := range []struct {
		s, trimmed string
		words      []string
	}{
		{"", "", nil}, {" ", "", nil}, {" \t \t", "", nil}, {"a", "a", []string{"a"}}, {" a  b\t", "a  b", []string{"a", "b"}}, {"\ta", "a", []string{"a"}}, {"a\t", "a", []string{"a"}},
		{"ab c", "ab c", []string{"ab", "c"}}, {"a\t \tbc\td ", "a\t \tbc\td", []string{"a", "bc", "d"}}, {"\ta  b\nc ", "a  b\nc", []string{"a", "b\nc"}},
		{"\n a \r\n", "\n a \r\n", []string{"\n", "a", "\r\n"}}, {"\v\f\x00", "\v\f\x00", []string{"\v\f\x00"}}, {"\u00a0a\u0085 \u2003", "\u00a0a\u0085 \u2003", []string{"\u00a0a\u0085", "\u2003"}},
		{" \xff \x80", "\xff \x80", []string{"\xff", "\x80"}}, {"\x85\xa0", "\x85\xa0", []string{"\x85\xa0"}},
	} {
		if got := ascii.Trim(c.s); got != c.trimmed {
			t.Errorf("Trim(%q) = %q, want %q", c.s, got, c.trimmed)
		}
		if got := ascii.Words(c.s); !slices.Equal(got, c.words) {
			t.Errorf("Words(%q) = %q, want %q", c.s, got, c.words)
		}
		if got, want := ascii.Squeeze(c.s), strings.Join(c.words, " "); got != want {
			t.Errorf("Squeeze(%q) = %q, want %q", c.s, got, want)
		}
	}
}

// TestP1_3Blanks checks that every byte but the two blanks belongs to a word.
func TestP1_3Blanks(t *testing.T) {
	for i := range 256 {
		c := string([]byte{byte(i)})
		trimmed, words := "a"+c+"b", []string{"a" + c + "b"}
		outer := c + "a" + c
		if c == " " || c == "\t" {
			words, outer = []string{"a", "b"}, "a"
		}
		if got := ascii.Words("a" + c + "b"); !slices.Equal(got, words) {
			t.Errorf("Words with the byte %d = %q", i, got)
		}
		if got := ascii.Trim(" a" + c + "b\t"); got != trimmed {
			t.Errorf("Trim with the byte %d inside = %q", i, got)
		}
		if got := ascii.Trim(c + "a" + c); got != outer {
			t.Errorf("Trim with the byte %d outside = %q", i, got)
		}
	}
}

func TestP1_4Digits(t *testing.T) {
	for n, want := range map[int]string{
		0: "0", 1: "1", 9: "9", 10: "10", 100: "100", 1200: "1200", -1: "-1", -5: "-5", -10: "-10", 65536: "65536", 105190559: "105190559",
		math.MaxInt64: "9223372036854775807", math.MinInt64: "-9223372036854775808", math.MinInt64 + 1: "-9223372036854775807",
	} {
		if got := ascii.Digits(n); got != want {
			t.Errorf("Digits(%d) = %q", n, got)
		}
	}
}

func TestP1_4Number(t *testing.T) {
	for _, c := range []struct {
		s       string
		most, n int
		e       api.Errno
	}{
		{"120", 120, 120, api.OK}, {"121", 120, 0, api.ErrRange}, {"119", 120, 119, api.OK}, {"0", 0, 0, api.OK}, {"0", 120, 0, api.OK}, {"1", 0, 0, api.ErrRange}, {"9", 9, 9, api.OK}, {"10", 9, 0, api.ErrRange}, {"100", 99, 0, api.ErrRange},
		{"0", -1, 0, api.ErrRange}, {"5", -1, 0, api.ErrRange}, {"0", math.MinInt64, 0, api.ErrRange}, {"7", -10, 0, api.ErrRange},
		{"9223372036854775807", math.MaxInt64, math.MaxInt64, api.OK}, {"9223372036854775806", math.MaxInt64, math.MaxInt64 - 1, api.OK}, {"9223372036854775808", math.MaxInt64, 0, api.ErrRange},
		{"9223372036854775807", math.MaxInt64 - 1, 0, api.ErrRange}, {"18446744073709551615", math.MaxInt64, 0, api.ErrRange}, {"18446744073709551616", math.MaxInt64, 0, api.ErrRange}, {"18446744073709551617", 5, 0, api.ErrRange}, {"1" + strings.Repeat("0", 100), 5, 0, api.ErrRange},
		{strings.Repeat("9", 1000), math.MaxInt64, 0, api.ErrRange},
		{"", 120, 0, api.ErrFormat}, {"007", 120, 0, api.ErrFormat}, {"00", 120, 0, api.ErrFormat}, {"01", 120, 0, api.ErrFormat}, {"-1", 120, 0, api.ErrFormat}, {"-0", 120, 0, api.ErrFormat}, {"+1", 120, 0, api.ErrFormat}, {" 1", 120, 0, api.ErrFormat}, {"1 ", 120, 0, api.ErrFormat}, {"1\n", 120, 0, api.ErrFormat},
		{"1_0", 120, 0, api.ErrFormat}, {"0x1", 120, 0, api.ErrFormat}, {"1e1", 120, 0, api.ErrFormat}, {"1.0", 120, 0, api.ErrFormat}, {"a", 120, 0, api.ErrFormat}, {"12a", 120, 0, api.ErrFormat}, {"a12", 120, 0, api.ErrFormat}, {"1:", 120, 0, api.ErrFormat}, {"/1", 120, 0, api.ErrFormat}, {"\u0661", 120, 0, api.ErrFormat}, {"1\x00", 120, 0, api.ErrFormat},
		{"0121", 120, 0, api.ErrFormat}, {"999x", 120, 0, api.ErrFormat}, {strings.Repeat("9", 50) + "x", 120, 0, api.ErrFormat}, {"0" + strings.Repeat("9", 50), 120, 0, api.ErrFormat}, {"00", -1, 0, api.ErrFormat}, {"", -1, 0, api.ErrFormat},
	} {
		if n, e := ascii.Number(c.s, c.most); n != c.n || e != c.e {
			t.Errorf("Number(%q, %d) = %d, %d, want %d, %d", c.s, c.most, n, e, c.n, c.e)
		}
	}
}

func TestP1_5Hex(t *testing.T) {
	const upperFirst = "0123456789abcdef"
	for i := range 256 {
		b, text := []byte{byte(i)}, string([]byte{upperFirst[i/16], upperFirst[i%16]})
		if got := ascii.Hex(b); got != text {
			t.Errorf("Hex of the byte %d = %q", i, got)
		}
		if got, e := ascii.Unhex(text); e != api.OK || !bytes.Equal(got, b) {
			t.Errorf("Unhex(%q) = %v, %d", text, got, e)
		}
	}
	if got := ascii.Hex([]byte{0, 171}); got != "00ab" {
		t.Errorf("Hex of 0, 171 = %q", got)
	}
	if got := ascii.Hex(nil); got != "" {
		t.Errorf("Hex(nil) = %q", got)
	}
	if got, e := ascii.Unhex(""); e != api.OK || len(got) != 0 {
		t.Errorf("Unhex of the empty text = %v, %d", got, e)
	}
	if got, e := ascii.Unhex("00ab"); e != api.OK || !bytes.Equal(got, []byte{0, 171}) {
		t.Errorf("Unhex(00ab) = %v, %d", got, e)
	}
}

func TestP1_5UnhexErrors(t *testing.T) {
	for _, s := range []string{"0A", "A0", "AB", "abc", "a", "g0", "0g", " 0", "0 ", "00 ", "0x00", "00\n", "-1", "00ab0", "00abg0", "0x", "\xff\xff", "\u0661", "fF", "FF", "0/", "0:", "0`", "00:0", "0000000g"} {
		if b, e := ascii.Unhex(s); e != api.ErrFormat || len(b) != 0 {
			t.Errorf("Unhex(%q) = %v, %d", s, b, e)
		}
	}
	for i := range 256 {
		c := string([]byte{byte(i)})
		want := api.ErrFormat
		if strings.Contains("0123456789abcdef", c) {
			want = api.OK
		}
		for _, s := range []string{c + "0", "0" + c} {
			if _, e := ascii.Unhex(s); e != want {
				t.Errorf("Unhex(%q) returns %d, want %d", s, e, want)
			}
		}
	}
}

// TestP1_6Order checks that CompareFold is a total order up to case.
func TestP1_6Order(t *testing.T) {
	all := append(stringsOf("aB_z", 3), "\x80", "\xff", "{", "[", "A\x00")
	for _, a := range all {
		for _, b := range all {
			ab := ascii.CompareFold(a, b)
			if ab != -ascii.CompareFold(b, a) || (ab == 0) != ascii.EqualFold(a, b) || ab != strings.Compare(ascii.Lower(a), ascii.Lower(b)) {
				t.Fatalf("CompareFold(%q, %q) = %d", a, b, ab)
			}
		}
	}
	slices.SortFunc(all, ascii.CompareFold)
	for i, a := range all {
		for _, b := range all[i:] {
			if ascii.CompareFold(a, b) > 0 {
				t.Fatalf("%q is sorted before %q", a, b)
			}
		}
	}
}

func TestP1_6Inverses(t *testing.T) {
	for _, s := range stringsOf("ab \t", 6) {
		squeezed := ascii.Squeeze(s)
		if ascii.Squeeze(squeezed) != squeezed || !slices.Equal(ascii.Words(squeezed), ascii.Words(s)) || !slices.Equal(ascii.Words(s), strings.Fields(s)) {
			t.Fatalf("Squeeze(%q) = %q", s, squeezed)
		}
	}
	numbers := []int{math.MaxInt64, math.MaxInt64 - 1, math.MaxInt32, math.MaxInt32 + 1}
	for n := range 3000 {
		numbers = append(numbers, n, n*n*n*7919)
	}
	for _, n := range numbers {
		text := ascii.Digits(n)
		if got, e := ascii.Number(text, math.MaxInt64); got != n || e != api.OK || text != strconv.Itoa(n) {
			t.Fatalf("Number(%q) = %d, %d", text, got, e)
		}
		if got, e := ascii.Number(text, n); got != n || e != api.OK {
			t.Fatalf("Number(%q, %d) = %d, %d", text, n, got, e)
		}
		if got, e := ascii.Number(text, n-1); got != 0 || e != api.ErrRange {
			t.Fatalf("Number(%q, %d) = %d, %d", text, n-1, got, e)
		}
	}
	all := []byte(everyByte() + everyByte())
	if got, e := ascii.Unhex(ascii.Hex(all)); e != api.OK || !bytes.Equal(got, all) {
		t.Errorf("Unhex of Hex of all bytes = %v, %d", got, e)
	}
}

// TestP1_6NewMemory checks that arguments stay as they are and that results share nothing.
func TestP1_6NewMemory(t *testing.T) {
	b := []byte{1, 2, 254}
	if ascii.Hex(b); !bytes.Equal(b, []byte{1, 2, 254}) {
		t.Errorf("Hex has changed its argument: %v", b)
	}
	first, _ := ascii.Unhex("0102")
	first[0] = 99
	if second, _ := ascii.Unhex("0102"); !bytes.Equal(second, []byte{1, 2}) {
		t.Errorf("Unhex after a change of an earlier result: %v", second)
	}
	words := ascii.Words("a b")
	words[0] = "x"
	if again := ascii.Words("a b"); !slices.Equal(again, []string{"a", "b"}) {
		t.Errorf("Words after a change of an earlier result: %q", again)
	}
}

// TestP1LongTexts checks that texts of many bytes are handled in reasonable time.
func TestP1LongTexts(t *testing.T) {
	long := strings.Repeat("aB ", 1<<18)
	if got := ascii.Words(long); len(got) != 1<<18 || got[1<<17] != "aB" {
		t.Errorf("%d words", len(got))
	}
	if got := ascii.Squeeze(long); got != long[:len(long)-1] {
		t.Errorf("Squeeze returns %d bytes", len(got))
	}
	same := strings.Repeat("A", 1<<18)
	if got := ascii.IndexFold(same+same+"b", same+"B"); got != 1<<18 {
		t.Errorf("IndexFold of long texts = %d", got)
	}
	if ascii.Trim(strings.Repeat(" \t", 1<<19)) != "" || ascii.Printable(long) != -1 || ascii.CompareFold(same+"b", same+"A") != 1 {
		t.Error("a long text is not handled as a short one")
	}
}
