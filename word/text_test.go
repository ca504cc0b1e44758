package word_test

import (
	"math/rand"
	"slices"
	"strings"
	"testing"

	"bulletin/api"
	"bulletin/word"
)

// encode is what Encode returns by the words of the chapter.
func encode(s string, encoding int) (string, api.Errno) {
	switch {
	case len(s) > 4096:
		return "", api.ErrLong
	case !printable(s):
		return "", api.ErrByte
	case plain(s):
		return s, api.OK
	}
	var words []string
	characters := strings.Split(s, "")
	for len(characters) > 0 {
		n := 1
		for n < len(characters) && len(encoded(strings.Join(characters[:n+1], ""), encoding)) <= 75 {
			n++
		}
		words = append(words, encoded(strings.Join(characters[:n], ""), encoding))
		characters = characters[n:]
	}
	return strings.Join(words, " "), api.OK
}

// find is what Find returns by the words of the chapter.
func find(s string) []word.Place {
	var places []word.Place
	for from := range len(s) {
		if strings.IndexByte(" \t", s[from]) >= 0 || from > 0 && strings.IndexByte(" \t", s[from-1]) < 0 {
			continue
		}
		to := len(s)
		if n := strings.IndexAny(s[from:], " \t"); n >= 0 {
			to = from + n
		}
		if _, _, e := parse(s[from:to]); e == api.OK {
			places = append(places, word.Place{From: from, To: to})
		}
	}
	if len(s) > 16384 {
		return nil
	}
	return places
}

// decode is what Decode returns by the words of the chapter.
func decode(s string) (string, api.Errno) {
	if len(s) > 16384 {
		return "", api.ErrLong
	}
	for i := range len(s) {
		if s[i] != 9 && (s[i] < 32 || s[i] > 126) {
			return "", api.ErrByte
		}
	}
	places, text := find(s), ""
	for i, place := range places {
		before := s[:place.From]
		if i > 0 {
			before = s[places[i-1].To:place.From]
			if strings.Trim(before, " \t") == "" {
				before = ""
			}
		}
		decoded, _, _ := parse(s[place.From:place.To])
		text += before + decoded
	}
	if len(places) > 0 {
		s = s[places[len(places)-1].To:]
	}
	return text + s, api.OK
}

// checkEncode compares Encode and Shorter with the model.
func checkEncode(t *testing.T, s string) {
	t.Helper()
	var sizes [2]int
	for _, encoding := range []int{word.B, word.Q} {
		want, wanted := encode(s, encoding)
		if got, e := word.Encode(s, encoding); got != want || e != wanted {
			t.Fatalf("Encode(%q, %d) = %q, %d, want %q, %d", s, encoding, got, e, want, wanted)
		}
		sizes[encoding] = len(want)
	}
	want := word.B
	if sizes[word.Q] < sizes[word.B] {
		want = word.Q
	}
	if got := word.Shorter(s); got != want {
		t.Fatalf("Shorter(%q) = %d, want %d", s, got, want)
	}
}

// checkDecode compares Find and Decode with the model.
func checkDecode(t *testing.T, s string) {
	t.Helper()
	if got, want := word.Find(s), find(s); !slices.Equal(got, want) {
		t.Fatalf("Find(%q) = %v, want %v", s, got, want)
	}
	want, wanted := decode(s)
	if got, e := word.Decode(s); got != want || e != wanted {
		t.Fatalf("Decode(%q) = %q, %d, want %q, %d", s, got, e, want, wanted)
	}
}

func TestP10_3Encode(t *testing.T) {
	for _, s := range textsOf(5, "a", " ", "=", "?", "\u00e4", "\n") {
		checkEncode(t, s)
	}
	random := rand.New(rand.NewSource(103))
	for range 1500 {
		checkEncode(t, randomText(random, 120))
	}
	for n := range 70 { // where a word ends
		for _, c := range []string{"a", " ", "\u00e4", "\u20ac", "\U0001F600"} {
			checkEncode(t, strings.Repeat("a", n)+c+"=?"+c+c)
			checkEncode(t, strings.Repeat(c, n)+"\u20ac")
			checkEncode(t, "\u20ac"+strings.Repeat(c, n))
		}
	}
}

// TestP10_3Values has texts that are written out.
func TestP10_3Values(t *testing.T) {
	for _, c := range []struct {
		s        string
		encoding int
		want     string
	}{
		{"na\u00efve", word.Q, "=?utf-8?Q?na=C3=AFve?="}, {"na\u00efve", word.B, "=?utf-8?B?bmHDr3Zl?="}, // example 1
		{"", word.Q, ""}, {"", word.B, ""}, {" ", word.B, " "}, {"plain text", word.Q, "plain text"}, {"a?=b = ?", word.B, "a?=b = ?"},
		{"=?", word.Q, "=?utf-8?Q?=3D=3F?="}, {"=?utf-8?Q?a?=", word.Q, "=?utf-8?Q?=3D=3Futf-8=3FQ=3Fa=3F=3D?="},
		{strings.Repeat("a", 63) + "\u00e4", word.Q, "=?utf-8?Q?" + strings.Repeat("a", 63) + "?= =?utf-8?Q?=C3=A4?="},
		{strings.Repeat("a", 57) + "\u00e4", word.Q, "=?utf-8?Q?" + strings.Repeat("a", 57) + "=C3=A4?="},
		{strings.Repeat("a", 58) + "\u00e4b", word.Q, "=?utf-8?Q?" + strings.Repeat("a", 58) + "?= =?utf-8?Q?=C3=A4b?="},
		{strings.Repeat("a", 43) + "\u00e4", word.B, "=?utf-8?B?" + strings.Repeat("YWFh", 14) + "YcOk?="},
		{strings.Repeat("a", 44) + "\u00e4", word.B, "=?utf-8?B?" + strings.Repeat("YWFh", 14) + "YWE=?= =?utf-8?B?w6Q=?="},
		{strings.Repeat(" ", 70) + "\u00e4", word.Q, "=?utf-8?Q?" + strings.Repeat("_", 63) + "?= =?utf-8?Q?_______=C3=A4?="},
	} {
		if got, e := word.Encode(c.s, c.encoding); got != c.want || e != api.OK {
			t.Errorf("Encode(%q, %d) = %q, %d, want %q", c.s, c.encoding, got, e, c.want)
		}
	}
}

// TestP10_3Long has texts of about MaxText bytes.
func TestP10_3Long(t *testing.T) {
	for n := 4090; n <= 4100; n++ {
		checkEncode(t, strings.Repeat("a", n))
		checkEncode(t, strings.Repeat("a", n-2)+"=?")
		checkEncode(t, strings.Repeat("\u00e4", n/2)+strings.Repeat("a", n%2))
	}
}

// TestP10_3Order checks that the errors of Encode come in their order, and before everything else.
func TestP10_3Order(t *testing.T) {
	long := strings.Repeat("a", 4097)
	for _, encoding := range badEncodings {
		for _, s := range []string{"", "a", "\u00e4", "\n", long, long + "\n"} {
			if got, e := word.Encode(s, encoding); got != "" || e != api.ErrRange {
				t.Errorf("Encode(%.20q, %d) = %q, %d", s, encoding, got, e)
			}
		}
	}
	for _, encoding := range []int{word.B, word.Q} {
		for _, s := range []string{long, long + "\n", "\n" + long, strings.Repeat("\u00e4", 2049), strings.Repeat("\xff", 4097)} {
			if got, e := word.Encode(s, encoding); got != "" || e != api.ErrLong {
				t.Errorf("Encode of %d bytes = %q, %d", len(s), got, e)
			}
		}
		for _, s := range wrong() {
			for _, s := range []string{s, s + "a", "\u00e4" + s, strings.Repeat("a", 4096-len(s)) + s} {
				if got, e := word.Encode(s, encoding); got != "" || e != api.ErrByte {
					t.Errorf("Encode(%.20q) = %q, %d", s, got, e)
				}
			}
		}
	}
}

func TestP10_4Find(t *testing.T) {
	for _, s := range textsOf(5, "=?utf-8?Q?b?=", "=?utf-8?B?Yw==?=", " ", "\t", "x", "=?") {
		checkDecode(t, s)
	}
	for _, s := range textsOf(4, "=?utf-8?Q?b?=", "\n", "\r", "\xa0", "\u00a0", "\x00", " ") { // only spaces and tabs separate tokens
		checkDecode(t, s)
	}
	for _, c := range []struct {
		s    string
		want []word.Place
	}{
		{"", nil}, {" \t ", nil}, {"a b", nil}, {"x=?utf-8?Q?a?=", nil}, {"=?utf-8?Q?a?=x", nil}, {"=?utf-8?Q?a?==?utf-8?Q?a?=", nil}, {"=?utf-8?Q?a b?=", nil},
		{"=?utf-8?Q?a?=", []word.Place{{From: 0, To: 13}}}, {"a =?utf-8?Q?b?= c", []word.Place{{From: 2, To: 15}}},
		{"\t=?utf-8?Q?a?=\t =?utf-8?Q?bc?=", []word.Place{{From: 1, To: 14}, {From: 16, To: 30}}},
		{"\u00e4\n =?utf-8?Q?a?= \xff", []word.Place{{From: 4, To: 17}}},
	} {
		if got := word.Find(c.s); !slices.Equal(got, c.want) {
			t.Errorf("Find(%q) = %v, want %v", c.s, got, c.want)
		}
	}
}

// TestP10_4Long has texts of about four times MaxText bytes.
func TestP10_4Long(t *testing.T) {
	one := "=?utf-8?Q?a?="
	for n := 16380; n <= 16390; n++ {
		for _, s := range []string{one + strings.Repeat(" ", n-len(one)), strings.Repeat(" ", n-len(one)) + one, strings.Repeat("\n", n-len(one)-1) + " " + one, strings.Repeat(one+" ", n/len(one)+1)[:n]} {
			checkDecode(t, s)
			if got := len(word.Find(s)); (got > 0) != (n <= 16384) {
				t.Errorf("Find finds %d words in %d bytes", got, n)
			}
		}
	}
	if l := word.Find(strings.Repeat(one+" ", 100000)); len(l) != 0 {
		t.Errorf("Find finds %d words", len(l))
	}
}

func TestP10_5Decode(t *testing.T) {
	for _, c := range []struct{ s, want string }{
		{"Re: =?UTF-8?q?a_b?=  =?utf-8?B?Yw==?= d", "Re: a bc d"}, {"x=?utf-8?Q?a?=", "x=?utf-8?Q?a?="}, // examples 2 and 3
		{"", ""}, {" \t", " \t"}, {"a  b\tc", "a  b\tc"}, {"=?utf-8?Q?a?=", "a"}, {"  =?utf-8?Q?a?=\t", "  a\t"},
		{"=?utf-8?Q?a?= =?utf-8?Q?b?=\t\t =?utf-8?Q?c?=", "abc"}, {"=?utf-8?Q?a?= b =?utf-8?Q?c?=", "a b c"}, {"=?utf-8?Q?a?=  b  =?utf-8?Q?c?= =?utf-8?Q?d?=", "a  b  cd"},
		{"=?utf-8?Q?a_?= =?utf-8?Q?_b?=", "a  b"}, {"=?utf-8?Q?=C3?= =?utf-8?Q?=A4?=", "=?utf-8?Q?=C3?= =?utf-8?Q?=A4?="},
		{"=?utf-8?Q?a?= =?utf-8?Q?=?= =?utf-8?Q?b?=", "a =?utf-8?Q?=?= b"},
		{"=?utf-8?Q?=3D=3Futf-8=3FQ=3Fa=3F=3D?=", "=?utf-8?Q?a?="}, // what is decoded is not decoded once more
		{"=?utf-8?Q?=C3=A4=E2=82=AC?=", "\u00e4\u20ac"},
	} {
		checkDecode(t, c.s)
		if got, e := word.Decode(c.s); got != c.want || e != api.OK {
			t.Errorf("Decode(%q) = %q, %d, want %q", c.s, got, e, c.want)
		}
	}
	random := rand.New(rand.NewSource(105))
	parts := []string{"=?utf-8?Q?a_b?=", "=?utf-8?B?w6Q=?=", "=?utf-8?q?=C3=A4?=", "=?utf-8?Q??=", "plain", " ", " ", "\t", "  ", "=?", "?="}
	for range 20000 {
		var s strings.Builder
		for range random.Intn(12) {
			s.WriteString(parts[random.Intn(len(parts))])
		}
		checkDecode(t, s.String())
	}
}

func TestP10_5Errors(t *testing.T) {
	for c := range 256 {
		b := string([]byte{byte(c)})
		for _, s := range []string{b, "a" + b, b + "a", "=?utf-8?Q?a?= " + b, "=?utf-8?Q?" + b + "?=", "=?utf-8?Q?a?=" + b + "=?utf-8?Q?a?="} {
			checkDecode(t, s)
			if got, e := word.Decode(s); (e == api.OK) != (c == 9 || c >= 32 && c <= 126) || e != api.OK && (got != "" || e != api.ErrByte) {
				t.Errorf("Decode(%q) = %q, %d", s, got, e)
			}
		}
	}
	for _, s := range []string{strings.Repeat("a", 16385), strings.Repeat("\n", 16385), strings.Repeat("\xff", 100000)} {
		if got, e := word.Decode(s); got != "" || e != api.ErrLong {
			t.Errorf("Decode of %d bytes = %.20q, %d", len(s), got, e)
		}
	}
	if got, e := word.Decode(strings.Repeat("a", 16384)); len(got) != 16384 || e != api.OK {
		t.Errorf("Decode of 16384 bytes = %d bytes, %d", len(got), e)
	}
	if got, e := word.Decode(strings.Repeat("a", 16383) + "\n"); got != "" || e != api.ErrByte {
		t.Errorf("Decode of 16384 bytes with a line feed = %d bytes, %d", len(got), e)
	}
}

func TestP10_6Shorter(t *testing.T) {
	for _, c := range []struct {
		s    string
		want int
	}{
		{"", word.B}, {"plain", word.B}, {"na\u00efve", word.B}, {"abcdefghijkl\u00ef", word.Q}, {"\u00e4\u00e4\u00e4", word.B}, {"=?", word.B}, {"=?abcdefghijkl", word.Q},
		{"abcdef\u00ef", word.B}, {"abcdefgh\u00ef", word.Q}, // both encodings of the first one have 24 bytes
		{"abcdefghijkl\n", word.B}, {"abcdefghijkl\xff", word.B}, {strings.Repeat("a", 4095) + "\u00e4", word.B}, {strings.Repeat("a", 4094) + "\u00e4", word.Q}, {strings.Repeat("a", 4097), word.B},
	} {
		if got := word.Shorter(c.s); got != c.want {
			t.Errorf("Shorter(%.20q) = %d, want %d", c.s, got, c.want)
		}
	}
	equal, less, more := 0, 0, 0
	for a := range 60 {
		for other := range 12 {
			s := strings.Repeat("a", a) + strings.Repeat("\u00e4", other)
			b, _ := word.Encode(s, word.B)
			q, _ := word.Encode(s, word.Q)
			want := word.B
			switch {
			case len(q) < len(b):
				want = word.Q
				less++
			case len(q) == len(b):
				equal++
			default:
				more++
			}
			if got := word.Shorter(s); got != want {
				t.Errorf("Shorter(%q) = %d, want %d", s, got, want)
			}
		}
	}
	if equal < 10 || less < 10 || more < 10 {
		t.Errorf("%d equal, %d less, %d more", equal, less, more)
	}
}

// checkInverse checks that Decode of Encode returns a text, and that all tokens of an encoded text are encoded words.
func checkInverse(t *testing.T, s string) {
	t.Helper()
	for _, encoding := range []int{word.B, word.Q} {
		text, e := word.Encode(s, encoding)
		if got, f := word.Decode(text); got != s || e != api.OK || f != api.OK {
			t.Fatalf("Decode of Encode of %.100q = %.100q, %d, %d", s, got, e, f)
		}
		if word.Plain(s) {
			continue
		}
		tokens := strings.Fields(text)
		if strings.Join(tokens, " ") != text || len(word.Find(text)) != len(tokens) {
			t.Fatalf("Encode(%.100q) = %.100q", s, text)
		}
		for _, token := range tokens {
			if _, got, e := word.Parse(token); got != encoding || e != api.OK {
				t.Fatalf("Encode(%.100q) has the token %q", s, token)
			}
		}
	}
}

func TestP10_7Inverse(t *testing.T) {
	for _, s := range textsOf(5, "a", " ", "=", "?", "\u00e4", "_") {
		checkInverse(t, s)
	}
	random := rand.New(rand.NewSource(107))
	for range 3000 {
		checkInverse(t, randomText(random, 200))
	}
	for _, c := range []string{"a", " ", "=", "?", "\u00e4", "\u20ac", "\U0001F600"} { // as long as possible
		for prefix := range 6 {
			s := "=?" + strings.Repeat("a", prefix)
			s += strings.Repeat(c, (4096-len(s))/len(c))
			checkInverse(t, s)
			for n := 1; n <= 64; n *= 2 { // with characters of different sizes
				part := strings.Repeat("a", prefix) + strings.Repeat(c, n) + "\U0001F600"
				checkInverse(t, strings.Repeat(part, 4096/len(part)))
			}
		}
	}
}

// TestP10_7Unchanged checks that Decode does not change a text without encoded words.
func TestP10_7Unchanged(t *testing.T) {
	count := 0
	for _, s := range textsOf(6, "a", " ", "\t", "=?utf-8?Q?", "b", "?=") {
		if len(find(s)) > 0 {
			continue
		}
		count++
		if got, e := word.Decode(s); got != s || e != api.OK {
			t.Fatalf("Decode(%q) = %q, %d", s, got, e)
		}
	}
	if count < 1000 {
		t.Errorf("only %d texts", count)
	}
}
