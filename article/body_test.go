package article_test

import (
	"math/rand"
	"regexp"
	"slices"
	"strings"
	"testing"
	"unicode"
	"unicode/utf8"
	"unsafe"

	"bulletin/api"
	"bulletin/article"
)

// These files have the terms of the chapter once more, over the standard library's functions.

// textsOf returns all texts of up to so many parts.
func textsOf(most int, parts ...string) []string {
	all, from := []string{""}, 0
	for range most {
		to := len(all)
		for _, s := range all[from:to] {
			for _, part := range parts {
				all = append(all, s+part)
			}
		}
		from = to
	}
	return all
}

// linesOf returns the lines of a text, without their line feeds.
func linesOf(text string) []string {
	l := strings.Split(text, "\n")
	if l[len(l)-1] == "" {
		l = l[:len(l)-1]
	}
	return l
}

func isControl(r rune) bool { return unicode.IsControl(r) || r == 0x2028 || r == 0x2029 }

// bodyError is what CheckBody returns by the words of the chapter.
func bodyError(body string) (int, api.Errno) {
	at := 0
	for _, line := range linesOf(body) {
		if at+len(line) == len(body) {
			return len(body), api.ErrShort
		}
		if len(line) > 998 {
			return at + 998, api.ErrLong
		}
		for i, r := range line {
			_, size := utf8.DecodeRuneInString(line[i:])
			if r == utf8.RuneError && size == 1 || r != '\t' && isControl(r) {
				return at + i, api.ErrByte
			}
		}
		at += len(line) + 1
	}
	return 0, api.OK
}

// checkBody compares CheckBody with the model.
func checkBody(t *testing.T, body string) api.Errno {
	t.Helper()
	want, wanted := bodyError(body)
	if at, e := article.CheckBody(body); at != want || e != wanted {
		t.Fatalf("CheckBody(%.200q) = %d, %d, want %d, %d", body, at, e, want, wanted)
	}
	return wanted
}

// TestP15_1Short has all short texts of bytes that matter in lines.
func TestP15_1Short(t *testing.T) {
	errors := map[api.Errno]int{}
	for _, s := range textsOf(6, "a", "\n", "\t", "\x07", "\xc2", "\x85", "\xa9") {
		errors[checkBody(t, s)]++
		errors[checkBody(t, s+"\n")]++
	}
	for _, s := range textsOf(5, "b", "\n", "\r", "\xe2", "\x80", "\xa8", "\xf0\x9f\x98", "\xed", "\x00") {
		errors[checkBody(t, s)]++
		errors[checkBody(t, s+"\n")]++
	}
	for _, e := range []api.Errno{api.OK, api.ErrShort, api.ErrByte} {
		if errors[e] < 1000 {
			t.Errorf("the errors are %v", errors)
		}
	}
}

// TestP15_1Bytes has every byte at every place of some bodies.
func TestP15_1Bytes(t *testing.T) {
	errors := map[api.Errno]int{}
	for _, s := range []string{"\n", "a\n", "ab\nc\td\n\n", "\t\n", "\xc3\xa9\n\xe2\x82\xac\n", "x\xf0\x9f\x98\x80y\nz", "\x07\n\xff\n"} {
		for place := range len(s) {
			for c := range 256 {
				changed := []byte(s)
				changed[place] = byte(c)
				errors[checkBody(t, string(changed))]++
				errors[checkBody(t, s[:place]+string(changed[place:place+1])+s[place:])]++
			}
			errors[checkBody(t, s[:place])]++
			errors[checkBody(t, s[place:])]++
		}
	}
	for _, e := range []api.Errno{api.OK, api.ErrShort, api.ErrByte} {
		if errors[e] < 100 {
			t.Errorf("the errors are %v", errors)
		}
	}
}

// TestP15_1CodePoints has a line with each code point.
func TestP15_1CodePoints(t *testing.T) {
	wrong := 0
	for r := range rune(utf8.MaxRune + 1) {
		if !utf8.ValidRune(r) {
			continue
		}
		if checkBody(t, "a"+string(r)+"\n") != api.OK && r != '\n' {
			wrong++
		}
	}
	if want := 31 - 1 + 33 + 2; wrong != want { // all of 0 to 1F but the tab and the line feed, 7F to 9F, and two others
		t.Errorf("%d code points must not be in a line, want %d", wrong, want)
	}
}

// TestP15_1Lengths has lines around the maximum length, with characters of all sizes and errors before and after the first 998 bytes.
func TestP15_1Lengths(t *testing.T) {
	errors := map[api.Errno]int{}
	for n := 990; n < 1005; n++ {
		for _, before := range []string{"", "a\n", "\n\n", "\t\n", strings.Repeat("b", 998) + "\n"} {
			for _, c := range []string{"x", "\xc3\xa9", "\xe2\x82\xac", "\xf0\x9f\x98\x80"} {
				for _, wrong := range []string{"", "\x07", "\xff", "\xc2\x85", "\xe2\x80"} {
					for _, after := range []string{"\n", "", "\nmore\n", "\n\x07\n", "\nmore"} {
						line := (strings.Repeat("y", 4) + strings.Repeat(c, n))[:n] // a character may be divided
						errors[checkBody(t, before+line+wrong+after)]++
						errors[checkBody(t, before+wrong+line+after)]++
					}
				}
			}
		}
	}
	for _, e := range []api.Errno{api.OK, api.ErrShort, api.ErrByte, api.ErrLong} {
		if errors[e] < 100 {
			t.Errorf("the errors are %v", errors)
		}
	}
}

func TestP15_1Errors(t *testing.T) {
	wants := func(body string, wantAt int, want api.Errno) {
		t.Helper()
		checkBody(t, body)
		if at, e := article.CheckBody(body); at != wantAt || e != want {
			t.Errorf("CheckBody(%.100q) = %d, %d, want %d, %d", body, at, e, wantAt, want)
		}
	}
	long := strings.Repeat("x", 999)
	wants("", 0, api.OK)
	wants("\n", 0, api.OK)
	wants("hello\n\n\tworld\n", 0, api.OK)
	wants(long[:998]+"\n", 0, api.OK)
	wants("x", 1, api.ErrShort)
	wants("a\nb", 3, api.ErrShort)
	wants("\x07\xff", 2, api.ErrShort) // ErrShort is the first error of a line
	wants(long, 999, api.ErrShort)
	wants("a\x07\nb", 1, api.ErrByte) // of the first line that has an error
	wants(long+"\nb", 998, api.ErrLong)
	wants("a\n"+long+"\n", 1000, api.ErrLong)
	wants("\x07"+long+"\n", 998, api.ErrLong)
	wants("a\x07\n"+long+"\n", 1, api.ErrByte)
	wants("a\r\n", 1, api.ErrByte)
	wants("a\x00\n", 1, api.ErrByte)
	wants("\x7f\n", 0, api.ErrByte)
	wants("a\xc2\x85b\xff\n", 1, api.ErrByte)
	wants("a\xffb\xc2\x85\n", 1, api.ErrByte)
	wants("ab\xe2\x82\n", 2, api.ErrByte)
	wants("\xe2\x80\xa8\n", 0, api.ErrByte)
	wants("\xe2\x80\xa9\n", 0, api.ErrByte)
	wants("\xe2\x80\xa7\xe2\x80\xaa\n", 0, api.OK)
	wants("\xed\xa0\x80\n", 0, api.ErrByte)
	wants("\xc0\x80\n", 0, api.ErrByte)
	wants("\xc3\t\xa9\n", 0, api.ErrByte) // a tab joins nothing
	wants("\xef\xbf\xbd\n", 0, api.OK)
	wants(strings.Repeat("line\n", 100000), 0, api.OK) // a body may be longer than an article
	wants(strings.Repeat("line\n", 100000)+"x", 500001, api.ErrShort)
}

// toLine is what ToLine returns by the words of the chapter.
func toLine(s string) (string, api.Errno) {
	switch {
	case len(s) > 65536:
		return "", api.ErrLong
	case strings.ContainsRune(s, '\r'):
		return "", api.ErrByte
	case s != "" && s[len(s)-1] != '\n':
		return "", api.ErrShort
	}
	return strings.Join(strings.Split(s, "\n"), "\r\n"), api.OK
}

// inPlace matches the longest beginning of a text in which all carriage returns and line feeds belong together.
var inPlace = regexp.MustCompile(`^(?:[^\r\n]|\r\n)*`)

// fromLine is what FromLine returns by the words of the chapter.
func fromLine(s string) (string, int, api.Errno) {
	if len(s) > 131072 {
		return "", 131072, api.ErrLong
	}
	if good := len(inPlace.FindString(s)); good < len(s) {
		return "", good, api.ErrFormat
	}
	if s != "" && s[len(s)-1] != '\n' {
		return "", len(s), api.ErrShort
	}
	text := strings.Join(strings.Split(s, "\r"), "")
	if len(text) > 65536 {
		return "", 0, api.ErrLong
	}
	return text, 0, api.OK
}

// checkEnds compares ToLine and FromLine with the models, and FromLine of ToLine with the text.
func checkEnds(t *testing.T, s string) (to, from api.Errno) {
	t.Helper()
	want, wanted := toLine(s)
	got, to := article.ToLine(s)
	if got != want || to != wanted {
		t.Fatalf("ToLine(%.200q) = %.200q, %d, want %.200q, %d", s, got, to, want, wanted)
	}
	if to == api.OK {
		if back, at, e := article.FromLine(got); back != s || at != 0 || e != api.OK {
			t.Fatalf("FromLine(%.200q) = %.200q, %d, %d", got, back, at, e)
		}
	}
	want, wantAt, wanted := fromLine(s)
	got, at, from := article.FromLine(s)
	if got != want || at != wantAt || from != wanted {
		t.Fatalf("FromLine(%.200q) = %.200q, %d, %d, want %.200q, %d, %d", s, got, at, from, want, wantAt, wanted)
	}
	return to, from
}

// TestP15_4Short has all short texts of line ends and others.
func TestP15_4Short(t *testing.T) {
	to, from := map[api.Errno]int{}, map[api.Errno]int{}
	for _, s := range slices.Concat(textsOf(9, "a", "\r", "\n"), textsOf(5, "\r\n", "\xff", "b\r\n", "\n", "\x00\n", " \r")) {
		a, b := checkEnds(t, s)
		to[a]++
		from[b]++
	}
	for _, e := range []api.Errno{api.OK, api.ErrByte, api.ErrShort} {
		if to[e] < 100 {
			t.Errorf("the errors of ToLine are %v", to)
		}
	}
	for _, e := range []api.Errno{api.OK, api.ErrFormat, api.ErrShort} {
		if from[e] < 100 {
			t.Errorf("the errors of FromLine are %v", from)
		}
	}
}

// TestP15_4Lengths has texts around the maximum lengths.
func TestP15_4Lengths(t *testing.T) {
	for _, n := range []int{65535, 65536, 65537, 131071, 131072, 131073} {
		for _, end := range []string{"", "\n", "\r\n", "\r"} {
			for _, begin := range []string{"", "\r\n", "\r"} {
				for _, c := range []string{"x", "\n", "\r", "\r\n", "x\r\n"} {
					checkEnds(t, begin+strings.Repeat(c, n/len(c))+end)
					checkEnds(t, (begin + strings.Repeat(c, n))[:n-len(end)]+end)
				}
			}
		}
	}
}

func TestP15_4Errors(t *testing.T) {
	to := func(s string, want string, wanted api.Errno) {
		t.Helper()
		if got, e := article.ToLine(s); got != want || e != wanted {
			t.Errorf("ToLine(%.50q) = %.50q, %d, want %.50q, %d", s, got, e, want, wanted)
		}
	}
	from := func(s string, want string, wantAt int, wanted api.Errno) {
		t.Helper()
		if got, at, e := article.FromLine(s); got != want || at != wantAt || e != wanted {
			t.Errorf("FromLine(%.50q) = %.50q, %d, %d, want %.50q, %d, %d", s, got, at, e, want, wantAt, wanted)
		}
	}
	feeds := strings.Repeat("\n", 65536)
	ends := strings.Repeat("\r\n", 65536)
	to("", "", api.OK)
	to("\n", "\r\n", api.OK)
	to("a\n\nb\n", "a\r\n\r\nb\r\n", api.OK)
	to("a", "", api.ErrShort)
	to("a\r", "", api.ErrByte)
	to("a\r\n", "", api.ErrByte)
	to(feeds, ends, api.OK)
	to(feeds+"\r", "", api.ErrLong)
	to(feeds[1:]+"\r", "", api.ErrByte)
	to(feeds[1:]+"a", "", api.ErrShort)
	from("", "", 0, api.OK)
	from(ends, feeds, 0, api.OK)
	from("\r", "", 0, api.ErrFormat)
	from("\n", "", 0, api.ErrFormat)
	from("\n\r", "", 0, api.ErrFormat)
	from("\r\r\n", "", 0, api.ErrFormat)
	from("\r\n\n", "", 2, api.ErrFormat)
	from("ab\r\ncd\r\n\re", "", 8, api.ErrFormat)
	from("a\r\nb\r", "", 4, api.ErrFormat)
	from("a\r\nb", "", 4, api.ErrShort)
	from(strings.Repeat("a", 65534)+"\r\n", strings.Repeat("a", 65534)+"\n", 0, api.OK)
	from(strings.Repeat("a", 65535)+"\r\n", strings.Repeat("a", 65535)+"\n", 0, api.OK)
	from(strings.Repeat("a", 65536)+"\r\n", "", 0, api.ErrLong)
	from(strings.Repeat("a", 131072), "", 131072, api.ErrShort)
	from(strings.Repeat("a", 131071)+"\n", "", 131071, api.ErrFormat)
	from(strings.Repeat("a", 131070)+"\r\n", "", 0, api.ErrLong)
	from(strings.Repeat("\n", 131073), "", 131072, api.ErrLong)
}

// checkLines compares Lines and Count with the model, also if the iteration is stopped.
func checkLines(t *testing.T, text string) {
	t.Helper()
	want := linesOf(text)
	if n := article.Count(text); n != len(want) {
		t.Fatalf("Count(%.200q) = %d, want %d", text, n, len(want))
	}
	lines := article.Lines(text)
	for range 2 { // it can be repeated
		var got []string
		for i, line := range lines {
			if i != len(got) {
				t.Fatalf("the line %d of %.200q has the index %d", len(got), text, i)
			}
			got = append(got, line)
		}
		if !slices.Equal(got, want) {
			t.Fatalf("the lines of %.200q are %.200q, want %.200q", text, got, want)
		}
	}
	for stop := 1; stop <= min(len(want), 5); stop++ {
		calls := 0
		lines(func(int, string) bool {
			calls++
			return calls < stop
		})
		if calls != stop {
			t.Fatalf("%d lines of %.200q were yielded, want %d", calls, text, stop)
		}
	}
}

func TestP15_5Short(t *testing.T) {
	for _, s := range textsOf(8, "a", "\n", "\r") {
		checkLines(t, s)
	}
	for _, s := range textsOf(5, "\n", "\n\n", "b", "\xff", "\x00", "\xe2\x80\xa8") {
		checkLines(t, s)
	}
}

func TestP15_5Lines(t *testing.T) {
	if article.Count("") != 0 || article.Count("\n") != 1 || article.Count("a") != 1 || article.Count("a\n") != 1 || article.Count("\na") != 2 {
		t.Error("Count of short texts")
	}
	random := rand.New(rand.NewSource(155))
	for range 200 {
		text := ""
		for range random.Intn(100) {
			text += strings.Repeat("x", random.Intn(50)) + strings.Repeat("\n", random.Intn(3))
		}
		checkLines(t, text)
	}
	if n := article.Count(strings.Repeat("a\n", 1<<20) + "b"); n != 1<<20+1 {
		t.Errorf("Count of many lines = %d", n)
	}
	article.Lines("a\nb\n")(nil) // it must not panic
}

// TestP15_9EndsRandom has random texts.
func TestP15_9EndsRandom(t *testing.T) {
	random := rand.New(rand.NewSource(159))
	for range 500 {
		b := make([]byte, random.Intn(300))
		random.Read(b)
		s := strings.ReplaceAll(string(b), "\r", "\n") + "\n"
		if to, _ := checkEnds(t, s); to != api.OK {
			t.Fatalf("ToLine(%q) = %d", s, to)
		}
		checkEnds(t, string(b))
		checkBody(t, string(b))
		checkLines(t, string(b))
	}
}

// volatile returns a text, and a function that overwrites it.
func volatile(s string) (string, func()) {
	b := []byte(s)
	return unsafe.String(&b[0], len(b)), func() { clear(b) }
}

// TestP15_9RetainedLines checks that results keep no memory of the arguments.
func TestP15_9RetainedLines(t *testing.T) {
	s, overwrite := volatile("a\nbc\n\nd")
	lines := article.Lines(s)
	var before []string
	for _, line := range lines {
		before = append(before, line)
	}
	overwrite()
	var after []string
	for _, line := range lines {
		after = append(after, line)
	}
	if want := []string{"a", "bc", "", "d"}; !slices.Equal(before, want) || !slices.Equal(after, want) {
		t.Errorf("the lines are %q and %q", before, after)
	}
	s, overwrite = volatile("a\nb\n")
	text, _ := article.ToLine(s)
	overwrite()
	if text != "a\r\nb\r\n" {
		t.Errorf("the text is %q", text)
	}
	s, overwrite = volatile("a\r\nb\r\n")
	text, _, _ = article.FromLine(s)
	overwrite()
	if text != "a\nb\n" {
		t.Errorf("the text is %q", text)
	}
}
