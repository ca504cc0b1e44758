package article_test

import (
	"math/rand"
	"regexp"
	"strings"
	"testing"

	"bulletin/api"
	"bulletin/article"
)

var quotation = regexp.MustCompile(`(?s)^(>+)( ?)(.*)$`)

// level is what Level returns by the words of the chapter.
func level(line string) (int, string) {
	if part := quotation.FindStringSubmatch(line); part != nil {
		return len(part[1]), part[3]
	}
	return 0, line
}

// checkLevel compares Level with the model.
func checkLevel(t *testing.T, line string) {
	t.Helper()
	want, rest := level(line)
	if n, s := article.Level(line); n != want || s != rest {
		t.Fatalf("Level(%.200q) = %d, %.200q, want %d, %.200q", line, n, s, want, rest)
	}
}

func TestP15_6LevelShort(t *testing.T) {
	for _, line := range textsOf(7, ">", " ", "a") {
		checkLevel(t, line)
	}
	for _, line := range textsOf(5, ">", " ", "\t", "\n", "\xff", "\xc2\xbb", "> ") { // they need not be lines of a body
		checkLevel(t, line)
	}
}

func TestP15_6Level(t *testing.T) {
	wants := func(line string, want int, rest string) {
		t.Helper()
		checkLevel(t, line)
		if n, s := article.Level(line); n != want || s != rest {
			t.Errorf("Level(%.100q) = %d, %.100q, want %d, %.100q", line, n, s, want, rest)
		}
	}
	wants("", 0, "")
	wants("a", 0, "a")
	wants(" a", 0, " a")
	wants(" ", 0, " ")
	wants(">", 1, "")
	wants("> ", 1, "")
	wants(">  ", 1, " ")
	wants(">a", 1, "a")
	wants("> a", 1, "a")
	wants(">>a ", 2, "a ")
	wants(">> >a", 2, ">a")
	wants(" >a", 0, " >a")
	wants(">\ta", 1, "\ta")
	wants("a>", 0, "a>")
	wants(strings.Repeat(">", 1<<20)+" x", 1<<20, "x")
}

// quote is what Quote returns by the words of the chapter.
func quote(body string) (string, api.Errno) {
	if _, e := bodyError(body); e != api.OK {
		return "", e
	}
	var text strings.Builder
	for _, line := range linesOf(body) {
		quoted := "> " + line
		if line == "" || strings.HasPrefix(line, ">") {
			quoted = ">" + line
		}
		if len(quoted) > 998 {
			return "", api.ErrLong
		}
		text.WriteString(quoted + "\n")
	}
	if text.Len() > 65536 {
		return "", api.ErrLong
	}
	return text.String(), api.OK
}

// checkQuote compares Quote with the model, and the levels of lines before and after.
func checkQuote(t *testing.T, body string) api.Errno {
	t.Helper()
	want, wanted := quote(body)
	got, e := article.Quote(body)
	if got != want || e != wanted {
		t.Fatalf("Quote(%.200q) = %.200q, %d, want %.200q, %d", body, got, e, want, wanted)
	}
	if e != api.OK {
		return e
	}
	before, after := linesOf(body), linesOf(got)
	if at, e := article.CheckBody(got); e != api.OK || len(before) != len(after) {
		t.Fatalf("Quote(%.200q) = %.200q, with the error %d at %d", body, got, e, at)
	}
	for i, line := range before {
		n, rest := article.Level(line)
		if m, s := article.Level(after[i]); m != n+1 || s != rest {
			t.Fatalf("the level of %.200q is %d, %.200q, and that of %.200q %d, %.200q", line, n, rest, after[i], m, s)
		}
	}
	return api.OK
}

// strip is what Strip returns by the words of the chapter.
func strip(body string, most int) (string, api.Errno) {
	if most < 1 {
		return "", api.ErrRange
	}
	if _, e := bodyError(body); e != api.OK {
		return "", e
	}
	var text strings.Builder
	for _, line := range linesOf(body) {
		if n, _ := level(line); n < most {
			text.WriteString(line + "\n")
		}
	}
	return text.String(), api.OK
}

// checkStrip compares Strip with the model, for several levels.
func checkStrip(t *testing.T, body string) {
	t.Helper()
	for _, most := range []int{-1 << 63, -1, 0, 1, 2, 3, 4, 1000, 1<<63 - 1} {
		want, wanted := strip(body, most)
		if got, e := article.Strip(body, most); got != want || e != wanted {
			t.Fatalf("Strip(%.200q, %d) = %.200q, %d, want %.200q, %d", body, most, got, e, want, wanted)
		}
	}
}

// TestP15_6Short has all short bodies, and others.
func TestP15_6Short(t *testing.T) {
	errors := map[api.Errno]int{}
	for _, s := range textsOf(7, ">", " ", "a", "\n") {
		errors[checkQuote(t, s)]++
		errors[checkQuote(t, s+"\n")]++
		checkStrip(t, s+"\n")
	}
	for _, s := range textsOf(5, "> ", "b\n", "\n", ">>>\n", "\x07", "\xff", "\t", "\xc3\xa9") {
		errors[checkQuote(t, s)]++
		checkStrip(t, s)
	}
	for _, e := range []api.Errno{api.OK, api.ErrShort, api.ErrByte} {
		if errors[e] < 100 {
			t.Errorf("the errors are %v", errors)
		}
	}
}

// TestP15_6LineLengths has lines around the maximum length.
func TestP15_6LineLengths(t *testing.T) {
	for n := 990; n < 1002; n++ {
		for _, begin := range []string{"", ">", "> ", ">>", " "} {
			line := (begin + strings.Repeat("x", n))[:n]
			want := api.OK
			switch longer := n + 2; {
			case n > 998, begin == "" && longer > 998, begin == " " && longer > 998, longer-1 > 998:
				want = api.ErrLong
			}
			for _, body := range []string{line + "\n", "a\n" + line + "\n", line + "\n>\n", "\n" + line + "\n\n"} {
				if e := checkQuote(t, body); e != want {
					t.Errorf("Quote of %.20q with %d bytes: %d, want %d", line, n, e, want)
				}
				checkStrip(t, body)
			}
		}
	}
	if e := checkQuote(t, strings.Repeat("x", 997)+"\n\x07\n"); e != api.ErrByte { // the errors of the body come first
		t.Errorf("Quote of a body with two errors: %d", e)
	}
}

// TestP15_6Lengths has bodies around the maximum length.
func TestP15_6Lengths(t *testing.T) {
	wants := func(body string, want api.Errno) {
		t.Helper()
		if e := checkQuote(t, body); e != want {
			t.Errorf("Quote of %.10q with %d bytes: %d, want %d", body, len(body), e, want)
		}
		checkStrip(t, body)
	}
	wants(strings.Repeat("\n", 32768), api.OK)
	wants(strings.Repeat("\n", 32769), api.ErrLong)
	wants(strings.Repeat("ab\n", 13107), api.OK) // 65535 bytes
	wants(strings.Repeat("ab\n", 13107)+"\n", api.ErrLong)
	wants(strings.Repeat("ab\n", 13106)+">x\n\n", api.OK) // 65536 bytes
	wants(strings.Repeat("ab\n", 13106)+"xy\n\n", api.ErrLong)
	wants(strings.Repeat(">>>>>>\n", 8192), api.OK)
	wants(strings.Repeat(">>>>>>\n", 8192)+"\n", api.ErrLong)
	wants(strings.Repeat("\n", 100000), api.ErrLong)
	wants(strings.Repeat("\n", 100000)+"x", api.ErrShort)
}

func TestP15_6Examples(t *testing.T) {
	if s, e := article.Quote("a\n> b\n\n"); s != "> a\n>> b\n>\n" || e != api.OK { // example 2
		t.Errorf("Quote = %q, %d", s, e)
	}
	wants := func(body string, most int, want string, wanted api.Errno) {
		t.Helper()
		if s, e := article.Strip(body, most); s != want || e != wanted {
			t.Errorf("Strip(%q, %d) = %q, %d, want %q, %d", body, most, s, e, want, wanted)
		}
	}
	wants("a\n> b\n>> c\nd\n", 2, "a\n> b\nd\n", api.OK)
	wants("a\n> b\n>> c\nd\n", 1, "a\nd\n", api.OK)
	wants("a\n> b\n>> c\nd\n", 3, "a\n> b\n>> c\nd\n", api.OK)
	wants("> > a\n >b\n", 2, "> > a\n >b\n", api.OK)
	wants(">\n>\n", 1, "", api.OK)
	wants("", 1, "", api.OK)
	wants("x", 0, "", api.ErrRange) // the level comes first
	wants("x", 1, "", api.ErrShort)
	wants("\x07\n", 1, "", api.ErrByte)
	wants(">\x07\n", 1, "", api.ErrByte) // also in lines that would be left out
}

var divided = regexp.MustCompile(`(?s)^((?:.*\n)?)-- (?:\n(.*))?$`)

// checkDivide compares Divide with the words of the chapter.
func checkDivide(t *testing.T, body string) {
	t.Helper()
	text, signature := body, ""
	if part := divided.FindStringSubmatch(body); part != nil {
		text, signature = part[1], part[2]
	}
	if a, b := article.Divide(body); a != text || b != signature {
		t.Fatalf("Divide(%.200q) = %.200q, %.200q, want %.200q, %.200q", body, a, b, text, signature)
	}
}

func TestP15_7Short(t *testing.T) {
	for _, s := range textsOf(7, "-", " ", "\n") {
		checkDivide(t, s)
	}
	for _, s := range textsOf(5, "-- ", "-- \n", "--", "\n", "a", "b\n", "\xff", "\r\n") {
		checkDivide(t, s)
	}
}

func TestP15_7Divide(t *testing.T) {
	wants := func(body, text, signature string) {
		t.Helper()
		checkDivide(t, body)
		if a, b := article.Divide(body); a != text || b != signature {
			t.Errorf("Divide(%q) = %q, %q, want %q, %q", body, a, b, text, signature)
		}
	}
	wants("", "", "")
	wants("a\n-- \nb\n", "a\n", "b\n")
	wants("a\n-- \nb\nc", "a\n", "b\nc")
	wants("a\n-- \nb\n-- \nc\n", "a\n-- \nb\n", "c\n") // at the last one of several
	wants("-- \n-- ", "-- \n", "")
	wants("-- ", "", "")
	wants("-- \n", "", "")
	wants("-- \n\n", "", "\n")
	wants("a\n-- ", "a\n", "") // the last line may be one that no line feed ends
	wants("a\n-- \n", "a\n", "")
	wants("a -- \nb", "a -- \nb", "")
	wants("--\nb\n", "--\nb\n", "")
	wants("--  \nb\n", "--  \nb\n", "")
	wants("> -- \nb\n", "> -- \nb\n", "")
	wants("-- \r\nb\n", "-- \r\nb\n", "")
	wants("a\x07\n-- \n\xff", "a\x07\n", "\xff") // of any text
	long := strings.Repeat("line\n", 1<<18)
	wants(long+"-- \n"+long, long, long)
}

// TestP15_9Quote has random bodies, which are quoted again and again.
func TestP15_9Quote(t *testing.T) {
	random := rand.New(rand.NewSource(1596))
	for range 300 {
		body := randomArticle(random).Body
		quoted := body
		for n := range 5 {
			checkQuote(t, quoted)
			checkStrip(t, quoted)
			checkDivide(t, quoted)
			again, e := article.Quote(quoted)
			if e != api.OK {
				t.Fatalf("Quote(%q): %d", quoted, e)
			}
			if s, e := article.Strip(again, n+1); s != "" || e != api.OK { // each line has at least this level
				t.Fatalf("Strip(%q, %d) = %q, %d", again, n+1, s, e)
			}
			quoted = again
		}
	}
}

// TestP15_9RetainedQuote checks that results keep no memory of the arguments.
func TestP15_9RetainedQuote(t *testing.T) {
	wants := func(got, want string) {
		t.Helper()
		if got != want {
			t.Errorf("the result is now %q, want %q", got, want)
		}
	}
	s, overwrite := volatile("> ab")
	_, rest := article.Level(s)
	overwrite()
	wants(rest, "ab")
	s, overwrite = volatile("a\n>b\n")
	quoted, _ := article.Quote(s)
	stripped, _ := article.Strip(s, 2)
	overwrite()
	wants(quoted, "> a\n>>b\n")
	wants(stripped, "a\n>b\n")
	s, overwrite = volatile("a\n-- \nb\n")
	text, signature := article.Divide(s)
	overwrite()
	wants(text, "a\n")
	wants(signature, "b\n")
	s, overwrite = volatile("a\nb\n")
	text, _ = article.Divide(s)
	overwrite()
	wants(text, "a\nb\n")
}
