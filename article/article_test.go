package article_test

import (
	"math/rand"
	"slices"
	"strings"
	"testing"

	"bulletin/api"
	"bulletin/article"
	"bulletin/field"
)

// print is what Print returns by the words of the chapter.
func print(a article.Article) (string, api.Errno) {
	text, e := field.Print(a.Fields)
	if e != api.OK {
		return "", e
	}
	if _, e := bodyError(a.Body); e != api.OK {
		return "", e
	}
	text += "\n" + a.Body
	if len(text) > 65536 {
		return "", api.ErrLong
	}
	return text, api.OK
}

// parse is what Parse returns by the words of the chapter.
func parse(s string) (article.Article, int, api.Errno) {
	if len(s) > 65536 {
		return article.Article{}, 65536, api.ErrLong
	}
	lines := strings.SplitAfter(s, "\n")
	empty := slices.Index(lines, "\n")
	header, body := s, ""
	if empty >= 0 {
		header, body = strings.Join(lines[:empty], ""), strings.Join(lines[empty+1:], "")
	}
	fields, at, e := field.Parse(header)
	if e != api.OK {
		return article.Article{}, at, e
	}
	if empty < 0 {
		return article.Article{}, len(s), api.ErrShort
	}
	if at, e := bodyError(body); e != api.OK {
		return article.Article{}, len(header) + 1 + at, e
	}
	return article.Article{Fields: fields, Body: body}, 0, api.OK
}

// same reports whether two articles are equal.
func same(a, b article.Article) bool { return slices.Equal(a.Fields, b.Fields) && a.Body == b.Body }

// checkPrint compares Check and Print with the model, and Parse of the text with the article.
func checkPrint(t *testing.T, a article.Article) api.Errno {
	t.Helper()
	want, wanted := print(a)
	if s, e := article.Print(a); s != want || e != wanted {
		t.Fatalf("Print(%.200q) = %.200q, %d, want %.200q, %d", a, s, e, want, wanted)
	}
	if e := a.Check(); e != wanted {
		t.Fatalf("Check of %.200q = %d, want %d", a, e, wanted)
	}
	if wanted == api.OK {
		if b, at, e := article.Parse(want); !same(a, b) || at != 0 || e != api.OK {
			t.Fatalf("Parse(%.200q) = %.200q, %d, %d, want %.200q", want, b, at, e, a)
		}
	}
	return wanted
}

// checkParse compares Parse with the model, and prints and parses the article once more.
func checkParse(t *testing.T, s string) api.Errno {
	t.Helper()
	want, wantAt, wanted := parse(s)
	a, at, e := article.Parse(s)
	if !same(a, want) || at != wantAt || e != wanted {
		t.Fatalf("Parse(%.200q) = %.200q, %d, %d, want %.200q, %d, %d", s, a, at, e, want, wantAt, wanted)
	}
	if e == api.OK {
		if printed := checkPrint(t, a); printed != api.OK && printed != api.ErrLong { // folding may add bytes
			t.Fatalf("Check of %.200q = %d", a, printed)
		}
	}
	return e
}

// parts has the fields of an article that the document names, and no others, or it could not be converted.
type parts struct {
	Fields []field.Field
	Body   string
}

func TestP15_2Types(t *testing.T) {
	a := parts(article.Article{Fields: []field.Field{{Name: "Subject", Body: "a"}}, Body: "b\n"})
	if len(a.Fields) != 1 || a.Fields[0].Body != "a" || a.Body != "b\n" {
		t.Errorf("the parts are %q", a)
	}
}

// TestP15_2Errors has all combinations of fields and bodies with errors of several kinds.
func TestP15_2Errors(t *testing.T) {
	many := slices.Repeat([]field.Field{{Name: "X", Body: "y"}}, 65)
	big := slices.Repeat([]field.Field{{Name: "X", Body: strings.TrimSpace(strings.Repeat("word ", 1600))}}, 9)
	fields := [][]field.Field{
		nil, {}, {{Name: "Subject", Body: "a b"}}, {{Name: "Subject", Body: "a"}, {Name: "X"}, {Name: "subject"}}, many[:64],
		many, big, big[:8], {{Name: "a b"}}, {{}}, {{Name: "X", Body: "\t"}}, {{Name: "X", Body: " "}}, {{Name: "X", Body: strings.Repeat("x", 901)}}, {{Name: "X"}, {Name: "Y", Body: "\n"}, {}},
	}
	bodies := []string{"", "\n", "a\n", "a\nb\n\n", "x", "a\x07\n", "\xff\n", strings.Repeat("x", 999) + "\n", "a\r\n", strings.Repeat("line\n", 3000), strings.Repeat("\n", 65535), strings.Repeat("\n", 65536), strings.Repeat("\n", 65536) + "x", strings.Repeat("\n", 1<<20)}
	errors := map[api.Errno]int{}
	for _, l := range fields {
		for _, body := range bodies {
			errors[checkPrint(t, article.Article{Fields: l, Body: body})]++
		}
	}
	for _, e := range []api.Errno{api.OK, api.ErrLimit, api.ErrName, api.ErrByte, api.ErrFormat, api.ErrLong, api.ErrShort} {
		if errors[e] < 5 {
			t.Errorf("the errors are %v", errors)
		}
	}
	wants := func(a article.Article, want api.Errno) {
		t.Helper()
		s, e := article.Print(a)
		if e != want || a.Check() != want || (s == "") != (want != api.OK) {
			t.Errorf("Print(%.100q) = %.100q, %d, and Check %d, want %d", a, s, e, a.Check(), want)
		}
	}
	wants(article.Article{}, api.OK)
	wants(article.Article{Fields: []field.Field{{Name: "a b"}}, Body: "x"}, api.ErrName)                // the fields come first
	wants(article.Article{Fields: big, Body: "x\x07\n"}, api.ErrLong)                                   // a header that is too long alone
	wants(article.Article{Fields: big[:8], Body: strings.Repeat("\n", 65536) + "\x07\n"}, api.ErrByte)  // the body comes before the length
	wants(article.Article{Fields: many[:64], Body: strings.Repeat("\n", 65536) + "more"}, api.ErrShort) // the same
}

// TestP15_2Lengths has articles around the maximum length.
func TestP15_2Lengths(t *testing.T) {
	for n := 65520; n < 65540; n++ {
		body := strings.Repeat("\n", n)
		for _, name := range []string{"X", "Xy", "Subject"} { // the text begins with the name, a colon and two line feeds
			want := api.OK
			if n+len(name)+3 > 65536 {
				want = api.ErrLong
			}
			if e := checkPrint(t, article.Article{Fields: []field.Field{{Name: name}}, Body: body}); e != want {
				t.Errorf("%d bytes after %s: %d, want %d", n, name, e, want)
			}
			checkParse(t, name+":\n\n"+body)
		}
		want := api.OK
		if n+1 > 65536 {
			want = api.ErrLong
		}
		if e := checkPrint(t, article.Article{Body: body}); e != want {
			t.Errorf("%d bytes: %d, want %d", n, e, want)
		}
	}
}

func TestP15_2Text(t *testing.T) {
	wants := func(a article.Article, want string) {
		t.Helper()
		if s, e := article.Print(a); s != want || e != api.OK {
			t.Errorf("Print(%q) = %q, %d, want %q", a, s, e, want)
		}
	}
	wants(article.Article{}, "\n")
	wants(article.Article{Body: "\n"}, "\n\n")
	wants(article.Article{Fields: []field.Field{{Name: "Subject", Body: "a"}}, Body: "hello\n"}, "Subject: a\n\nhello\n") // example 1
	words := strings.TrimSpace(strings.Repeat("0123456789 ", 12))
	wants(article.Article{Fields: []field.Field{{Name: "X", Body: words}, {Name: "Y"}}, Body: "a\n"}, "X: "+words[:65]+"\n "+words[66:]+"\nY:\n\na\n")
}

// TestP15_3Short has all short texts of bytes that matter.
func TestP15_3Short(t *testing.T) {
	errors := map[api.Errno]int{}
	for _, s := range textsOf(8, "A", ":", " ", "\n") {
		errors[checkParse(t, s)]++
	}
	for _, s := range textsOf(5, "Ab: c\n", " d\n", "\n", "e", "\x07", "\xff", "\t", "f\n", "\xc3\xa9\n") {
		errors[checkParse(t, s)]++
	}
	for _, e := range []api.Errno{api.OK, api.ErrShort, api.ErrFormat, api.ErrByte, api.ErrName} {
		if errors[e] < 100 {
			t.Errorf("the errors are %v", errors)
		}
	}
}

// TestP15_3Bytes has every byte at every place of a text, and all parts of it.
func TestP15_3Bytes(t *testing.T) {
	s := "Ab: c d\n e\nF:\n\ng\n\n\xc3\xa9h\ti\n"
	for place := range len(s) {
		for c := range 256 {
			changed := []byte(s)
			changed[place] = byte(c)
			checkParse(t, string(changed))
			checkParse(t, s[:place]+string(changed[place:place+1])+s[place:])
		}
		for end := place; end <= len(s); end++ {
			checkParse(t, s[place:end])
			checkParse(t, s[:place]+s[end:])
		}
	}
}

func TestP15_3Errors(t *testing.T) {
	wants := func(s string, wantAt int, want api.Errno) {
		t.Helper()
		checkParse(t, s)
		if a, at, e := article.Parse(s); !same(a, article.Article{}) || at != wantAt || e != want {
			t.Errorf("Parse(%.100q) = %.100q, %d, %d, want %d, %d", s, a, at, e, wantAt, want)
		}
	}
	wants("\n", 0, api.OK)
	wants("", 0, api.ErrShort)
	wants("Subject: a\n", 11, api.ErrShort)      // example 1
	wants("Subject: a\n\nx", 13, api.ErrShort)   // example 1
	wants("a\n\n", 0, api.ErrFormat)             // example 1
	wants("A: b", 4, api.ErrShort)               // for both reasons
	wants("A: b\nc\n", 5, api.ErrFormat)         // the fields come before the missing line
	wants("A: b\nC: \x07\n", 8, api.ErrByte)     // the same
	wants("A: \x07\n\n\x07", 3, api.ErrByte)     // the fields come before the body
	wants("A: b\n \n", 7, api.ErrShort)          // a line of a blank is not empty
	wants("A: b\n\r\n\n", 5, api.ErrByte)        // nor is this one
	wants("A: b\n\nc\n\n\x07\n", 9, api.ErrByte) // of several empty lines, the first one ends the header
	wants("\nA\x07\n", 2, api.ErrByte)
	wants("\n\xff", 2, api.ErrShort)
	wants("\n"+strings.Repeat("x", 999)+"\n", 999, api.ErrLong)
	wants("A:\n\n"+strings.Repeat("x", 999)+"\n", 1002, api.ErrLong)
	wants(strings.Repeat("A:\n", 65), 192, api.ErrLimit)
	wants(strings.Repeat("x", 65536), 65536, api.ErrShort)
	wants(strings.Repeat("x", 65537), 65536, api.ErrLong)
	wants("a\n\n"+strings.Repeat("\n", 65533), 0, api.ErrFormat)
	wants("a\n\n"+strings.Repeat("\n", 65534), 65536, api.ErrLong)
	wants("\n"+strings.Repeat("\n", 65534)+"\x07", 65536, api.ErrShort)
	wants(strings.Repeat("\n", 1<<20), 65536, api.ErrLong)
}

func TestP15_3Article(t *testing.T) {
	wants := func(s string, want article.Article) {
		t.Helper()
		if a, at, e := article.Parse(s); !same(a, want) || at != 0 || e != api.OK {
			t.Errorf("Parse(%q) = %q, %d, %d, want %q", s, a, at, e, want)
		}
	}
	wants("\n", article.Article{})
	wants("\n\n", article.Article{Body: "\n"})
	wants("\nA: b\n\n", article.Article{Body: "A: b\n\n"})
	wants("Subject: a\n\nhello\n", article.Article{Fields: []field.Field{{Name: "Subject", Body: "a"}}, Body: "hello\n"}) // example 1
	wants("Subject:  a\n\tb \nX:\nX: y\n\n\n\nz\n", article.Article{Fields: []field.Field{{Name: "Subject", Body: "a b"}, {Name: "X"}, {Name: "X", Body: "y"}}, Body: "\n\nz\n"})
	wants("A: b\n \n\n \n", article.Article{Fields: []field.Field{{Name: "A", Body: "b"}}, Body: " \n"})
}

// randomArticle returns an article without errors.
func randomArticle(random *rand.Rand) article.Article {
	a := article.Article{}
	word := func(most int) string { return strings.Repeat("w", 1+random.Intn(most)) }
	for range random.Intn(6) {
		var words []string
		for range random.Intn(30) {
			words = append(words, word(30))
		}
		a.Fields = append(a.Fields, field.Field{Name: word(40), Body: strings.Join(words, " ")})
	}
	for range random.Intn(20) {
		for range random.Intn(9) {
			a.Body += []string{" ", "\t", ">", "\xc3\xa9", "\xf0\x9f\x98\x80", word(50)}[random.Intn(6)]
		}
		a.Body += "\n"
	}
	return a
}

func TestP15_9Text(t *testing.T) {
	random := rand.New(rand.NewSource(1592))
	for range 500 {
		a := randomArticle(random)
		if e := checkPrint(t, a); e != api.OK {
			t.Fatalf("Check of %q = %d", a, e)
		}
		s, _ := article.Print(a)
		header, _ := field.Print(a.Fields)
		if s != header+"\n"+a.Body {
			t.Fatalf("Print(%q) = %q", a, s)
		}
		s = strings.ReplaceAll(header, ":", ": \t") + "\n" + a.Body // other texts of the same article
		if b, at, e := article.Parse(s); !same(a, b) || at != 0 || e != api.OK {
			t.Fatalf("Parse(%q) = %q, %d, %d, want %q", s, b, at, e, a)
		}
	}
}

// TestP15_8Equal has all pairs of some articles.
func TestP15_8Equal(t *testing.T) {
	x, y := field.Field{Name: "X", Body: "a"}, field.Field{Name: "Y"}
	articles := []article.Article{
		{}, {Body: "a\n"}, {Body: "A\n"}, {Body: "a\n\n"}, {Body: "a"}, {Fields: []field.Field{x}}, {Fields: []field.Field{x}, Body: "a\n"}, {Fields: []field.Field{y}},
		{Fields: []field.Field{x, y}}, {Fields: []field.Field{y, x}}, {Fields: []field.Field{x, x}}, {Fields: []field.Field{x, y, x}}, {Fields: []field.Field{{Name: "x", Body: "a"}}}, {Fields: []field.Field{{Name: "X", Body: "A"}}}, {Fields: []field.Field{{Name: "X", Body: " a"}}}, {Fields: []field.Field{{}}},
	}
	for i, a := range articles {
		for j, b := range articles {
			if got := article.Equal(a, b); got != (i == j) {
				t.Errorf("Equal(%q, %q) = %t", a, b, got)
			}
		}
		if b := a.Clone(); !same(a, b) || !article.Equal(a, b) {
			t.Errorf("Clone of %q = %q", a, b)
		}
	}
	if !article.Equal(article.Article{}, article.Article{Fields: []field.Field{}}) {
		t.Error("no fields and none are different")
	}
}

func TestP15_8Clone(t *testing.T) {
	name, overwriteName := volatile("Name")
	word, overwriteWord := volatile("word")
	body, overwriteBody := volatile("body\n")
	a := article.Article{Fields: []field.Field{{Name: "A", Body: "b"}, {Name: name, Body: word}}, Body: body}
	want := article.Article{Fields: []field.Field{{Name: "A", Body: "b"}, {Name: "Name", Body: "word"}}, Body: "body\n"}
	b := a.Clone()
	a.Fields[0] = field.Field{Name: "Other"}
	overwriteName()
	overwriteWord()
	overwriteBody()
	if !same(b, want) {
		t.Errorf("the clone is now %q", b)
	}
	c := want.Clone()
	c.Fields[0].Body = "other"
	c.Fields = append(c.Fields[:1], field.Field{Name: "More"})
	if want.Fields[0].Body != "b" || want.Fields[1].Name != "Name" {
		t.Errorf("the article is now %q", want)
	}
}

// TestP15_9RetainedText checks that results keep no memory of the arguments, and that arguments are not modified.
func TestP15_9RetainedText(t *testing.T) {
	s, overwrite := volatile("Ab: c d\n\ne\n")
	a, _, _ := article.Parse(s)
	overwrite()
	want := article.Article{Fields: []field.Field{{Name: "Ab", Body: "c d"}}, Body: "e\n"}
	if !same(a, want) {
		t.Errorf("the article is now %q", a)
	}
	text, _ := article.Print(a)
	if a.Check() != api.OK || !same(a, want) || text != "Ab: c d\n\ne\n" {
		t.Errorf("the article is now %q, and its text %q", a, text)
	}
}
