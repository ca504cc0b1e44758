package utf8_test

import (
	"math"
	"slices"
	"strings"
	"testing"
	standard "unicode/utf8"

	"bulletin/api"
	"bulletin/utf8"
)

// edges are the bytes at which the form of an encoding changes.
const edges = "\x00a\x7f\x80\x8f\x90\x9f\xa0\xbf\xc0\xc1\xc2\xdf\xe0\xe1\xec\xed\xee\xef\xf0\xf1\xf3\xf4\xf5\xf7\xf8\xfb\xfc\xff"

// Four code points with encodings of one to four bytes.
const sample = "a\xc3\xa9\xe2\x82\xac\xf0\x9f\x98\x80"

// stringsOf returns all strings of at most most bytes out of letters.
func stringsOf(letters string, most int) []string {
	all := []string{""}
	for from := 0; most > 0; most-- {
		to := len(all)
		for _, s := range all[from:to] {
			for i := range len(letters) {
				all = append(all, s+letters[i:i+1])
			}
		}
		from = to
	}
	return all
}

// incomplete returns the length of the longest beginning of s that is the beginning of an encoding without being complete.
func incomplete(s string) int {
	for n := min(len(s), 3); n > 0; n-- {
		if !standard.FullRuneInString(s[:n]) {
			return n
		}
	}
	return 0
}

// checked returns the first error of a string, by the definition of the document.
func checked(s string) (int, api.Errno) {
	for at := 0; at < len(s); {
		r, size := standard.DecodeRuneInString(s[at:])
		switch {
		case r != standard.RuneError || size == 3:
			at += size
		case s[at] < 0xC2 || s[at] > 0xF4:
			return at, api.ErrByte
		case incomplete(s[at:]) == len(s)-at:
			return at, api.ErrTruncated
		default:
			return at, api.ErrFormat
		}
	}
	return 0, api.OK
}

// repaired returns what Repair has to return, by the definition of the document.
func repaired(s string) string {
	text := ""
	for s != "" {
		r, size := standard.DecodeRuneInString(s)
		if r == standard.RuneError && size == 1 {
			text += "\xef\xbf\xbd"
			size = max(incomplete(s), 1)
		} else {
			text += s[:size]
		}
		s = s[size:]
	}
	return text
}

// checkAll compares all that is said of one string with the definitions.
func checkAll(t *testing.T, s string) {
	wantAt, wantE := checked(s)
	if at, e := utf8.Check(s); at != wantAt || e != wantE {
		t.Fatalf("Check(%x) = %d, %d; want %d, %d", s, at, e, wantAt, wantE)
	}
	if utf8.Valid(s) != (wantE == api.OK) || utf8.Valid(s) != standard.ValidString(s) {
		t.Fatalf("Valid(%x) = %v", s, utf8.Valid(s))
	}
	if got, want := utf8.Repair(s), repaired(s); got != want {
		t.Fatalf("Repair(%x) = %x, want %x", s, got, want)
	}
	wantR, wantSize, wantE0 := rune(0), 0, api.ErrArgument
	if s != "" {
		_, wantE0 = checked(s)
		if wantE0 != api.OK && wantAt > 0 {
			wantE0 = api.OK // the error is behind the first code point
		}
		if wantE0 == api.OK {
			wantR, wantSize = standard.DecodeRuneInString(s)
		}
	}
	if r, size, e := utf8.Decode(s); r != wantR || size != wantSize || e != wantE0 {
		t.Fatalf("Decode(%x) = %x, %d, %d; want %x, %d, %d", s, r, size, e, wantR, wantSize, wantE0)
	}
	wantN := 0
	if wantE == api.OK {
		wantN = standard.RuneCountInString(s)
	}
	if n, e := utf8.Count(s); n != wantN || e != wantE {
		t.Fatalf("Count(%x) = %d, %d; want %d, %d", s, n, e, wantN, wantE)
	}
}

// TestP3_1ToP3_5ByDefinition goes through all strings of up to three bytes, and those of four at which something changes.
func TestP3_1ToP3_5ByDefinition(t *testing.T) {
	for _, s := range stringsOf(edges, 4) {
		checkAll(t, s)
	}
	for i := range 1 << 16 {
		checkAll(t, string([]byte{byte(i >> 8), byte(i)}))
		for _, last := range []byte{'a', 0x80, 0xBF, 0xC3} {
			checkAll(t, string([]byte{byte(i >> 8), byte(i), last}))
		}
	}
	for _, s := range stringsOf("a\xc3\xa9\xe2\x82\xf0\x90", 6) {
		checkAll(t, s)
	}
}

func TestP3_1Check(t *testing.T) {
	for _, c := range []struct {
		s  string
		at int
		e  api.Errno
	}{
		{"", 0, api.OK}, {"abc", 0, api.OK}, {"\x00", 0, api.OK}, {sample, 0, api.OK}, {"\xf4\x8f\xbf\xbf", 0, api.OK}, {"\xed\x9f\xbf", 0, api.OK}, {"\xee\x80\x80", 0, api.OK}, {"\xef\xbf\xbd", 0, api.OK}, {"\xef\xbf\xbf", 0, api.OK},
		{"a\xc3", 1, api.ErrTruncated}, {"a\xc3(", 1, api.ErrFormat}, {"\xc0\x80", 0, api.ErrByte}, {"\xed\xa0\x80", 0, api.ErrFormat}, {"\xc1\xbf", 0, api.ErrByte}, {"\xf5\x80\x80\x80", 0, api.ErrByte}, {"\xff", 0, api.ErrByte}, {"ab\x80", 2, api.ErrByte}, {"\xbf", 0, api.ErrByte},
		{"\xf8\x88\x80\x80\x80", 0, api.ErrByte}, {"\xf4\x90\x80\x80", 0, api.ErrFormat}, {"\xf4\x90", 0, api.ErrFormat}, {"\xf4\x8f", 0, api.ErrTruncated}, {"\xe0\x80\x80", 0, api.ErrFormat}, {"\xe0\x9f", 0, api.ErrFormat}, {"\xe0\xa0", 0, api.ErrTruncated}, {"\xe0", 0, api.ErrTruncated}, {"\xed\xa0", 0, api.ErrFormat}, {"\xed\xbf\xbf", 0, api.ErrFormat}, {"\xed", 0, api.ErrTruncated}, {"\xed\x9f", 0, api.ErrTruncated},
		{"x\xf0\x90\x80", 1, api.ErrTruncated}, {"x\xf0\x8f\x80", 1, api.ErrFormat}, {"x\xf0\x90\x80x", 1, api.ErrFormat}, {"\xf0\x90\x80\xc3", 0, api.ErrFormat}, {"\xc3\xc3", 0, api.ErrFormat}, {"\xc3\xc3\xa9", 0, api.ErrFormat}, {"\xe2\x82b\x80", 0, api.ErrFormat},
		{sample + "\xff" + "\xc3", 10, api.ErrByte}, {sample + "\xc3", 10, api.ErrTruncated}, {sample + "\xe2\x82" + sample, 10, api.ErrFormat},
	} {
		if at, e := utf8.Check(c.s); at != c.at || e != c.e {
			t.Errorf("Check(%x) = %d, %d; want %d, %d", c.s, at, e, c.at, c.e)
		}
		if got := utf8.Valid(c.s); got != (c.e == api.OK) {
			t.Errorf("Valid(%x) = %v", c.s, got)
		}
	}
}

func TestP3_2Decode(t *testing.T) {
	for _, c := range []struct {
		s    string
		r    rune
		size int
		e    api.Errno
	}{
		{"", 0, 0, api.ErrArgument}, {"a", 'a', 1, api.OK}, {"\x00b", 0, 1, api.OK}, {"\xc3\xa9!", 0xE9, 2, api.OK}, {"\xe2\x82\xac", 0x20AC, 3, api.OK}, {"\xf0\x9f\x98\x80\xff", 0x1F600, 4, api.OK}, {"a\xff", 'a', 1, api.OK}, {"\xef\xbf\xbd", 0xFFFD, 3, api.OK},
		{"\xc3", 0, 0, api.ErrTruncated}, {"\xc3(", 0, 0, api.ErrFormat}, {"\x80a", 0, 0, api.ErrByte}, {"\xed\xa0\x80", 0, 0, api.ErrFormat}, {"\xf0\x9f\x98", 0, 0, api.ErrTruncated}, {"\xf0\x9f\x98a", 0, 0, api.ErrFormat}, {"\xff", 0, 0, api.ErrByte},
	} {
		if r, size, e := utf8.Decode(c.s); r != c.r || size != c.size || e != c.e {
			t.Errorf("Decode(%x) = %x, %d, %d; want %x, %d, %d", c.s, r, size, e, c.r, c.size, c.e)
		}
	}
}

// TestP3_2Encode encodes every code point and its neighbours.
func TestP3_2Encode(t *testing.T) {
	for r, want := range map[rune]string{0: "\x00", 'a': "a", 0x7F: "\x7f", 0x80: "\xc2\x80", 0xE9: "\xc3\xa9", 0x7FF: "\xdf\xbf", 0x800: "\xe0\xa0\x80", 0x20AC: "\xe2\x82\xac", 0xD7FF: "\xed\x9f\xbf", 0xE000: "\xee\x80\x80", 0xFFFF: "\xef\xbf\xbf", 0x10000: "\xf0\x90\x80\x80", 0x10FFFF: "\xf4\x8f\xbf\xbf"} {
		if s, e := utf8.Encode(r); s != want || e != api.OK {
			t.Errorf("Encode(%x) = %x, %d", r, s, e)
		}
	}
	for _, r := range []rune{-1, -2, math.MinInt32, math.MaxInt32, 0xD800, 0xDBFF, 0xDC00, 0xDFFF, 0x110000, 0x110001, 0x200000, -0x10FFFF} {
		if s, e := utf8.Encode(r); s != "" || e != api.ErrRange {
			t.Errorf("Encode(%x) = %x, %d", r, s, e)
		}
	}
	if utf8.MaxRune != 0x10FFFF || utf8.Replacement != 0xFFFD {
		t.Error("the constants are not those of the document")
	}
	for r := rune(-300); r < 0x110300; r++ {
		want, wantE := "", api.ErrRange
		if standard.ValidRune(r) {
			want, wantE = string(r), api.OK
		}
		if s, e := utf8.Encode(r); s != want || e != wantE {
			t.Fatalf("Encode(%x) = %x, %d", r, s, e)
		}
	}
}

func TestP3_3CountAndOffset(t *testing.T) {
	for i, want := range []int{0, 1, 3, 6, 10} {
		if at, e := utf8.Offset(sample, i); at != want || e != api.OK {
			t.Errorf("Offset(%d) = %d, %d; want %d", i, at, e, want)
		}
	}
	for _, index := range []int{-1, 5, 10, math.MaxInt64, math.MinInt64} {
		if at, e := utf8.Offset(sample, index); at != 0 || e != api.ErrRange {
			t.Errorf("Offset(%d) = %d, %d", index, at, e)
		}
	}
	for s, want := range map[string]int{"": 0, "abc": 3, sample: 4, sample + sample: 8, "\xc3\xa9": 1, "e\u0301": 2, "\x00\n": 2} {
		if n, e := utf8.Count(s); n != want || e != api.OK {
			t.Errorf("Count(%x) = %d, %d; want %d", s, n, e, want)
		}
		if at, e := utf8.Offset(s, want); at != len(s) || e != api.OK {
			t.Errorf("Offset(%x, %d) = %d, %d", s, want, at, e)
		}
		if at, e := utf8.Offset(s, want+1); at != 0 || e != api.ErrRange {
			t.Errorf("Offset(%x, %d) = %d, %d", s, want+1, at, e)
		}
	}
	for s, want := range map[string]api.Errno{"\x80": api.ErrByte, "ab\xff": api.ErrByte, sample + "\xc3": api.ErrTruncated, sample + "\xc3(": api.ErrFormat, sample + "\xe2(\xff": api.ErrFormat} {
		if n, e := utf8.Count(s); n != 0 || e != want {
			t.Errorf("Count(%x) = %d, %d; want %d", s, n, e, want)
		}
		for _, index := range []int{-1, 0, 1, 2, 100} {
			if at, e := utf8.Offset(s, index); at != 0 || e != want {
				t.Errorf("Offset(%x, %d) = %d, %d; want %d", s, index, at, e, want)
			}
		}
	}
}

func TestP3_4Truncate(t *testing.T) {
	for most, want := range []int{0, 1, 1, 3, 3, 3, 6, 6, 6, 6, 10, 10, 10} {
		if got, e := utf8.Truncate(sample, most); got != sample[:want] || e != api.OK {
			t.Errorf("Truncate(%d) = %x, %d; want %x", most, got, e, sample[:want])
		}
	}
	for _, c := range []struct {
		s    string
		most int
		want string
		e    api.Errno
	}{
		{"", 0, "", api.OK}, {"", 5, "", api.OK}, {"abc", 0, "", api.OK}, {"abc", 2, "ab", api.OK}, {"abc", 3, "abc", api.OK}, {"abc", math.MaxInt64, "abc", api.OK}, {"\xf0\x9f\x98\x80", 3, "", api.OK}, {"\xf0\x9f\x98\x80\xf0\x9f\x98\x80", 7, "\xf0\x9f\x98\x80", api.OK},
		{"", -1, "", api.ErrRange}, {sample, -1, "", api.ErrRange}, {sample, math.MinInt64, "", api.ErrRange},
		{"a\xff", -1, "", api.ErrByte}, {"a\xff", 1, "", api.ErrByte}, {"a\xff", 0, "", api.ErrByte}, {"ab\xc3", 2, "", api.ErrTruncated}, {"ab\xc3", -5, "", api.ErrTruncated}, {"ab\xc3(", 1, "", api.ErrFormat},
	} {
		if got, e := utf8.Truncate(c.s, c.most); got != c.want || e != c.e {
			t.Errorf("Truncate(%x, %d) = %x, %d; want %x, %d", c.s, c.most, got, e, c.want, c.e)
		}
	}
}

func TestP3_5Repair(t *testing.T) {
	const x = "\xef\xbf\xbd"
	for in, want := range map[string]string{
		"": "", "ok": "ok", sample: sample, "a\xe2\x82b\x80": "a" + x + "b" + x, "\xf0\x90\x80": x, "\xed\xa0\x80": x + x + x, "\xc3\xc3\xa9": x + "\xc3\xa9", "\xff": x, "\x80\x80": x + x, "\xc0\x80": x + x, "\xc3": x, "\xc3(": x + "(", "\xe2\x82": x, "\xe2": x, "\xe0\x80\x80": x + x + x, "\xe0\xa0": x, "\xf0\x90\x80a": x + "a", "\xf0\x90\x80\xf0\x90\x80\x80": x + "\xf0\x90\x80\x80", "\xf0\x80\x80\x80": x + x + x + x, "\xf4\x90\x80\x80": x + x + x + x, "\xf5\x80": x + x, "\xf0\x9f\x98\x80\x80": "\xf0\x9f\x98\x80" + x, "\xe2\x82\xe2\x82\xac": x + "\xe2\x82\xac", "\xe2\xe2\x82": x + x, x: x,
	} {
		if got := utf8.Repair(in); got != want {
			t.Errorf("Repair(%x) = %x, want %x", in, got, want)
		}
	}
}

// runes returns the offsets and code points that Runes yields, at most most of them.
func runes(s string, most int) []int {
	var got []int
	for at, r := range utf8.Runes(s) {
		got = append(got, at, int(r))
		if len(got) >= 2*most {
			break
		}
	}
	return got
}

func TestP3_6Runes(t *testing.T) {
	for _, c := range []struct {
		s    string
		want []int
	}{
		{"", nil}, {"ab", []int{0, 'a', 1, 'b'}}, {sample, []int{0, 'a', 1, 0xE9, 3, 0x20AC, 6, 0x1F600}}, {"a\xc3\xa9b\xffc", []int{0, 'a', 1, 0xE9, 3, 'b'}}, {"\xffabc", nil}, {"a\xc3", []int{0, 'a'}}, {"a\xe2\x82b", []int{0, 'a'}}, {"\xef\xbf\xbd\x00", []int{0, 0xFFFD, 3, 0}},
	} {
		for most := 1; most <= 5; most++ {
			if got, want := runes(c.s, most), c.want[:min(2*most, len(c.want))]; !slices.Equal(got, want) {
				t.Errorf("Runes(%x), at most %d: %x, want %x", c.s, most, got, want)
			}
		}
		calls, all := 0, utf8.Runes(c.s)
		for range 2 {
			all(func(int, rune) bool { calls++; return true })
		}
		if calls != len(c.want) {
			t.Errorf("Runes(%x), ranged over twice, yields %d code points", c.s, calls)
		}
		calls = 0
		all(func(int, rune) bool { calls++; return false })
		if calls != min(len(c.want), 1) {
			t.Errorf("Runes(%x) goes on after yield has returned false: %d calls", c.s, calls)
		}
	}
}

func TestP3_6Printable(t *testing.T) {
	for r := rune(0); r < 0x110000; r++ {
		if !standard.ValidRune(r) {
			continue
		}
		control := r <= 0x1F || r >= 0x7F && r <= 0x9F || r == 0x2028 || r == 0x2029
		if got := utf8.Printable("a" + string(r) + "b"); got == control {
			t.Fatalf("Printable with %x = %v", r, got)
		}
	}
	for s, want := range map[string]bool{"": true, sample: true, " ~\u00a0": true, "a\tb": false, "a\n": false, "\x00": false, "\x7f": false, "\xc2\x85": false, "\xe2\x80\xa8": false, "\xe2\x80\xa9a": false, "\xff": false, "ab\xff": false, "ab\xc3": false, "\x85": false, "a\xe2\x80": false} {
		if got := utf8.Printable(s); got != want {
			t.Errorf("Printable(%x) = %v", s, got)
		}
	}
}

func TestP3_7Write(t *testing.T) {
	d := utf8.NewDecoder()
	for i, c := range []struct {
		b, s    string
		pending int
		e       api.Errno
	}{
		{"", "", 0, api.OK}, {"a\xe2", "a", 1, api.OK}, {"", "", 1, api.OK}, {"\x82", "", 2, api.OK}, {"(", "", 2, api.ErrFormat}, {"\xe2", "", 2, api.ErrFormat}, {"\xac\xff", "", 2, api.ErrByte}, {"\xacb\xc3(", "", 2, api.ErrFormat}, {"\xacb", "\xe2\x82\xacb", 0, api.OK},
		{"\xff", "", 0, api.ErrByte}, {"a\x80", "", 0, api.ErrByte}, {"\xf0", "", 1, api.OK}, {"\x80", "", 1, api.ErrFormat}, {"\x9f", "", 2, api.OK}, {"\x98", "", 3, api.OK}, {"x", "", 3, api.ErrFormat}, {"\x80\xed", "\xf0\x9f\x98\x80", 1, api.OK}, {"\xa0", "", 1, api.ErrFormat}, {"\x9f\xbf\xf0\x9f\x98", "\xed\x9f\xbf", 3, api.OK}, {"\x81", "\xf0\x9f\x98\x81", 0, api.OK}, {"abc", "abc", 0, api.OK},
	} {
		if s, e := d.Write([]byte(c.b)); s != c.s || e != c.e || d.Pending() != c.pending {
			t.Errorf("%d: Write(%x) = %x, %d, Pending %d; want %x, %d, %d", i, c.b, s, e, d.Pending(), c.s, c.e, c.pending)
		}
	}
	if e := d.Close(); e != api.OK {
		t.Errorf("Close = %d", e)
	}
}

// TestP3_7Pieces writes a text in all its divisions, with a decoder of each kind.
func TestP3_7Pieces(t *testing.T) {
	for cuts := range 1 << (len(sample) - 1) {
		var zero utf8.Decoder
		d := &zero
		if cuts%2 == 0 {
			d = utf8.NewDecoder()
		}
		text, from := "", 0
		for to := 1; to <= len(sample); to++ {
			if to < len(sample) && cuts>>(to-1)&1 == 0 {
				continue
			}
			s, e := d.Write([]byte(sample[from:to]))
			text, from = text+s, to
			complete, _ := checked(sample[:to])
			if complete == 0 {
				complete = to
			}
			if e != api.OK || text != sample[:complete] || d.Pending() != to-complete {
				t.Fatalf("division %b, after %d bytes: %x, %d, Pending %d", cuts, to, text, e, d.Pending())
			}
		}
		if e := d.Close(); e != api.OK || text != sample {
			t.Fatalf("division %b: %x, %d", cuts, text, e)
		}
	}
}

// TestP3_7Divided compares the decoder with Check for strings that may be invalid and arrive in two pieces.
func TestP3_7Divided(t *testing.T) {
	for _, s := range stringsOf("a\xc3\xa9\xe2\x82\xf0\x90", 4) {
		for cut := range len(s) + 1 {
			d := utf8.NewDecoder()
			if _, e := d.Write([]byte(s[:cut])); e != api.OK {
				continue
			}
			before := d.Pending()
			at, want := checked(s[cut-before:])
			text, pending := "", before
			switch want {
			case api.OK:
				text, pending = s[cut-before:], 0
			case api.ErrTruncated:
				text, want = s[cut-before:cut-before+at], api.OK
				pending = len(s) - (cut - before + at)
			}
			if got, e := d.Write([]byte(s[cut:])); got != text || e != want || d.Pending() != pending {
				t.Fatalf("%x and %x: %x, %d, Pending %d; want %x, %d, %d", s[:cut], s[cut:], got, e, d.Pending(), text, want, pending)
			}
		}
	}
}

func TestP3_7Close(t *testing.T) {
	d := utf8.NewDecoder()
	d.Write([]byte("\xf0"))
	for range 2 { // what Close refuses does not end the text
		if e := d.Close(); e != api.ErrTruncated || d.Pending() != 1 {
			t.Errorf("Close with a pending byte = %d, Pending %d", e, d.Pending())
		}
	}
	if s, e := d.Write([]byte("\x9f\x98\x80")); s != "\xf0\x9f\x98\x80" || e != api.OK {
		t.Errorf("Write after a Close that was refused = %x, %d", s, e)
	}
	if e := d.Close(); e != api.OK {
		t.Errorf("Close = %d", e)
	}
	for _, b := range []string{"", "a", "\xff", "\xc3", "\xc3("} {
		if s, e := d.Write([]byte(b)); s != "" || e != api.ErrState || d.Pending() != 0 {
			t.Errorf("Write(%x) after Close = %x, %d", b, s, e)
		}
		if e := d.Close(); e != api.ErrState {
			t.Errorf("Close after Close = %d", e)
		}
	}
	var zero utf8.Decoder
	if zero.Pending() != 0 || zero.Close() != api.OK || zero.Close() != api.ErrState {
		t.Error("the zero value does not end as an empty text")
	}
}

func TestP3_7NilDecoder(t *testing.T) {
	var d *utf8.Decoder
	for _, b := range []string{"", "a", "\xff", "\xc3"} {
		if s, e := d.Write([]byte(b)); s != "" || e != api.ErrArgument {
			t.Errorf("Write(%x) = %x, %d", b, s, e)
		}
	}
	if d.Pending() != 0 || d.Close() != api.ErrArgument {
		t.Errorf("Pending %d, Close %d", d.Pending(), d.Close())
	}
}

// TestP3_8Inverse checks that Decode inverts Encode, and that encodings are ordered as the code points are.
func TestP3_8Inverse(t *testing.T) {
	last := ""
	for r := rune(0); r <= utf8.MaxRune; r++ {
		s, e := utf8.Encode(r)
		if e != api.OK {
			continue
		}
		if got, size, e := utf8.Decode(s + "\x80"); got != r || size != len(s) || e != api.OK {
			t.Fatalf("Decode of the encoding of %x = %x, %d, %d", r, got, size, e)
		}
		if r > 0 && last >= s {
			t.Fatalf("the encoding of %x is not greater than that before it", r)
		}
		last = s
	}
	for _, s := range stringsOf(edges, 3) {
		text := ""
		for _, r := range utf8.Runes(s) {
			c, _ := utf8.Encode(r)
			text += c
		}
		if (text == s) != utf8.Valid(s) || !strings.HasPrefix(s, text) {
			t.Fatalf("the code points of %x have the encodings %x", s, text)
		}
	}
}

func TestP3_8Repair(t *testing.T) {
	for _, s := range stringsOf(edges, 3) {
		got := utf8.Repair(s)
		if !utf8.Valid(got) || utf8.Valid(s) && got != s || utf8.Repair(got) != got {
			t.Fatalf("Repair(%x) = %x", s, got)
		}
	}
}

// TestP3_8NewMemory checks that Write neither modifies nor retains its argument, and that decoders share nothing.
func TestP3_8NewMemory(t *testing.T) {
	b := append(make([]byte, 0, 100), "a\xe2\x82"...)
	d, other := utf8.NewDecoder(), utf8.NewDecoder()
	first, _ := d.Write(b)
	if string(b[:5]) != "a\xe2\x82\x00\x00" {
		t.Errorf("the argument was changed: %x", b[:5])
	}
	b[0], b[1], b[2] = 'x', 'y', 'z'
	if s, e := other.Write([]byte("b")); s != "b" || e != api.OK || other.Pending() != 0 {
		t.Errorf("another decoder: %x, %d, Pending %d", s, e, other.Pending())
	}
	if second, e := d.Write([]byte("\xac")); first+second != "a\xe2\x82\xac" || e != api.OK {
		t.Errorf("the argument was retained: %x, %d", first+second, e)
	}
}

// TestP1LongTexts checks that texts of many bytes are handled in reasonable time.
func TestP1LongTexts(t *testing.T) {
	long := strings.Repeat(sample, 1<<17)
	if n, e := utf8.Count(long); n != 1<<19 || e != api.OK || !utf8.Printable(long) || utf8.Repair(long) != long {
		t.Errorf("a long text has %d code points, %d", n, e)
	}
	if at, e := utf8.Check(long + "\xe2\x82"); at != len(long) || e != api.ErrTruncated {
		t.Errorf("Check of a long text = %d, %d", at, e)
	}
	if at, e := utf8.Offset(long, 1<<18); at != len(long)/2 || e != api.OK {
		t.Errorf("Offset in a long text = %d, %d", at, e)
	}
	if got := utf8.Repair(strings.Repeat("\x80", 1<<20)); len(got) != 3<<20 {
		t.Errorf("Repair of continuation bytes has %d bytes", len(got))
	}
}
