package field_test

import (
	"math/rand"
	"slices"
	"strings"
	"testing"

	"bulletin/api"
	"bulletin/field"
)

// continues reports whether s begins with a blank.
func continues(s string) bool { return s != "" && only(s[:1], " \t") }

// lineError is the offset and the kind of the first error of a line that begins at an offset of a text and ends with a line feed if ended, by the words of the chapter. The fields are those of the lines before.
func lineError(text, line string, at int, ended bool, l []field.Field) (int, api.Errno) {
	if !ended {
		return len(text), api.ErrShort
	}
	if len(line) > 998 {
		return at + 998, api.ErrLong
	}
	for i := range len(line) {
		if !only(line[i:i+1], visible+" \t") {
			return at + i, api.ErrByte
		}
	}
	colon := strings.Index(line, ":")
	if continues(line) && len(l) == 0 || !continues(line) && colon < 0 {
		return at, api.ErrFormat
	}
	if !continues(line) {
		if !isName(line[:colon]) {
			return at, api.ErrName
		}
		if len(l) >= 64 {
			return at, api.ErrLimit
		}
	}
	for i := range len(line) {
		if i > colon || continues(line) {
			if i+901 <= len(line) && !strings.ContainsAny(line[i:i+901], " \t") {
				return at + i, api.ErrLong
			}
		}
	}
	return 0, api.OK
}

// parse is what Parse returns by the words of the chapter.
func parse(s string) ([]field.Field, int, api.Errno) {
	if len(s) > 65536 {
		return nil, 65536, api.ErrLong
	}
	var l []field.Field
	for at := 0; at < len(s); {
		end := strings.Index(s[at:], "\n")
		line := s[at:]
		if end >= 0 {
			line = s[at : at+end]
		}
		if where, e := lineError(s, line, at, end >= 0, l); e != api.OK {
			return nil, where, e
		}
		words := line
		if !continues(line) {
			colon := strings.Index(line, ":")
			l = append(l, field.Field{Name: line[:colon]})
			words = line[colon+1:]
		}
		last := &l[len(l)-1]
		for _, word := range strings.Fields(words) {
			last.Body = strings.TrimPrefix(last.Body+" "+word, " ")
		}
		if len(last.Body) > 8192 {
			return nil, at, api.ErrLong
		}
		at += end + 1
	}
	return l, 0, api.OK
}

// checkParse compares Parse with the model.
func checkParse(t *testing.T, s string) ([]field.Field, api.Errno) {
	t.Helper()
	want, where, wanted := parse(s)
	got, at, e := field.Parse(s)
	if !slices.Equal(got, want) || at != where || e != wanted {
		t.Fatalf("Parse(%.200q) = %.200q, %d, %d, want %.200q, %d, %d", s, got, at, e, want, where, wanted)
	}
	return got, e
}

// TestP9_3Short compares all short texts with the model.
func TestP9_3Short(t *testing.T) {
	for _, s := range textsOf("Ab: \t\n", 7) {
		checkParse(t, s)
	}
	for _, s := range textsOf("A:\n \x00-1\xc3", 5) {
		checkParse(t, s)
	}
}

// TestP9_3Bytes has each byte at each place of a header.
func TestP9_3Bytes(t *testing.T) {
	header := "Ab: c d\n e\nF:\n\tg\n"
	for place := range len(header) {
		for c := range 256 {
			b := []byte(header)
			b[place] = byte(c)
			checkParse(t, string(b))
			checkParse(t, header[:place]+string([]byte{byte(c)})+header[place:])
		}
		checkParse(t, header[:place])
	}
}

// TestP9_3Random joins lines of all kinds.
func TestP9_3Random(t *testing.T) {
	random := rand.New(rand.NewSource(93))
	lines := []string{"Subject: a  b", "X:", "x:\t", " c", "\td  e ", " ", "\t \t", "Long-Name-1: f:g", "A:" + wordsOf(1, 900), " " + wordsOf(1, 900), " " + wordsOf(9, 99), "B: : : ", " 1:2", "C:\x7e"}
	bad := []string{"", "no colon", "1: a", ": a", "A : b", strings.Repeat("n", 41) + ": a", "A: \x00", "A: \x7f", "A: \xc3\xa4", "A:" + wordsOf(1, 901), " " + wordsOf(1, 901), " a " + wordsOf(1, 950), "A: " + wordsOf(5, 200), "A: b\r"}
	errors := map[api.Errno]int{}
	for range 6000 {
		var text strings.Builder
		for range random.Intn(30) {
			text.WriteString(lines[random.Intn(len(lines))] + "\n")
		}
		for range random.Intn(3) {
			text.WriteString(bad[random.Intn(len(bad))] + "\n")
		}
		s := text.String()
		if random.Intn(8) == 0 {
			s = strings.TrimSuffix(s, "\n")
		}
		_, e := checkParse(t, s)
		errors[e]++
	}
	for _, e := range []api.Errno{api.OK, api.ErrShort, api.ErrLong, api.ErrByte, api.ErrFormat, api.ErrName} {
		if errors[e] < 50 {
			t.Errorf("the errors are %v", errors)
		}
	}
}

// checkAt checks the error of a header.
func checkAt(t *testing.T, name, s string, where int, want api.Errno) {
	t.Helper()
	if l, at, e := field.Parse(s); len(l) != 0 || at != where || e != want {
		t.Errorf("%s: Parse = %.80q, %d, %d, want %d, %d", name, l, at, e, where, want)
	}
	checkParse(t, s)
}

func TestP9_3Errors(t *testing.T) {
	head, long, many := "A: b\n", strings.Repeat("x", 999), strings.Repeat("A: b\n c\n", 64)
	checkAt(t, "no line feed", "A: b", 4, api.ErrShort)
	checkAt(t, "no line feed after a field", head+"B", 6, api.ErrShort)
	checkAt(t, "no line feed after a long line", head+long, 1004, api.ErrShort)
	checkAt(t, "no line feed after a wrong byte", head+"\x00", 6, api.ErrShort)
	checkAt(t, "a wrong line before one without a line feed", "x\nA: b", 0, api.ErrFormat)
	checkAt(t, "a long line", head+long+"\n", 5+998, api.ErrLong)
	checkAt(t, "a long line with a wrong byte", head+"\x00"+long+"\n", 5+998, api.ErrLong)
	checkAt(t, "a long line with a long word", head+"B: c "+long+"\n", 5+998, api.ErrLong)
	checkAt(t, "a long line of blanks", head+strings.Repeat(" ", 999)+"\n", 5+998, api.ErrLong)
	checkAt(t, "a wrong byte", head+"B: c\x00\n", 9, api.ErrByte)
	checkAt(t, "two wrong bytes", head+"B: \xc3\xa4\x00\n", 8, api.ErrByte)
	checkAt(t, "a carriage return", "A: b\r\n", 4, api.ErrByte)
	checkAt(t, "a wrong byte in no field", head+"B\x7f\n", 6, api.ErrByte)
	checkAt(t, "a wrong byte before a long word", head+"B: \x7f "+strings.Repeat("x", 950)+"\n", 8, api.ErrByte)
	checkAt(t, "nothing to continue", " a\n", 0, api.ErrFormat)
	checkAt(t, "nothing to continue but a long word", " "+strings.Repeat("x", 901)+"\n", 0, api.ErrFormat)
	checkAt(t, "a blank line at the beginning", "\t\n", 0, api.ErrFormat)
	checkAt(t, "an empty line", head+"\n", 5, api.ErrFormat)
	checkAt(t, "no colon", head+"B c\n", 5, api.ErrFormat)
	checkAt(t, "no colon after 64 fields", many+"B\n", len(many), api.ErrFormat)
	checkAt(t, "no name", head+": c\n", 5, api.ErrName)
	checkAt(t, "no name after 64 fields", many+"1: c\n", len(many), api.ErrName)
	checkAt(t, "a name of 41 bytes", head+strings.Repeat("n", 41)+":\n", 5, api.ErrName)
	checkAt(t, "a blank before the colon", head+"B : c\n", 5, api.ErrName)
	checkAt(t, "no name and a long word", head+"1: "+strings.Repeat("x", 901)+"\n", 5, api.ErrName)
	checkAt(t, "65 fields", many+"B: c\n", len(many), api.ErrLimit)
	checkAt(t, "65 fields with a long word", many+"B: "+strings.Repeat("x", 901)+"\n", len(many), api.ErrLimit)
	checkAt(t, "a long word", head+"B: c "+strings.Repeat("x", 901)+" d\n", 10, api.ErrLong)
	checkAt(t, "a long word after the colon", head+"B:"+strings.Repeat("x", 901)+"\n", 7, api.ErrLong)
	checkAt(t, "a long word in a line that continues", head+"\t c "+strings.Repeat("x", 901)+" \n", 9, api.ErrLong)
	checkAt(t, "a long word that begins as the one before", head+"B: "+strings.Repeat("x", 50)+"\t"+strings.Repeat("x", 901)+"\n", 5+54, api.ErrLong)
	checkAt(t, "a name that is as long as a word", strings.Repeat("x", 901)+": "+strings.Repeat("x", 10)+"\n", 0, api.ErrName)
}

func TestP9_3Accepted(t *testing.T) {
	accept := func(s string, want ...field.Field) {
		t.Helper()
		if l, e := checkParse(t, s); e != api.OK || !slices.Equal(l, want) {
			t.Errorf("Parse(%.80q) = %.80q, %d", s, l, e)
		}
	}
	accept("")
	accept("Subject: a\n\t b\nX:\n", field.Field{Name: "Subject", Body: "a b"}, field.Field{Name: "X"}) // example 1
	accept("A:b\n", field.Field{Name: "A", Body: "b"})
	accept("A:\n \n\t\n b\n", field.Field{Name: "A", Body: "b"})
	accept("A: b \n \t \n", field.Field{Name: "A", Body: "b"})
	accept("A: b:c :\n : d\n", field.Field{Name: "A", Body: "b:c : : d"})
	accept("a:\nA:\n", field.Field{Name: "a"}, field.Field{Name: "A"})
	accept("A: "+wordsOf(1, 900)+"\n", field.Field{Name: "A", Body: wordsOf(1, 900)})
	accept("A:"+strings.Repeat(" ", 996)+"\n", field.Field{Name: "A"})
	accept(strings.Repeat("n", 40)+":\n", field.Field{Name: strings.Repeat("n", 40)})
	accept(strings.Repeat("A:\n", 64), slices.Repeat([]field.Field{{Name: "A"}}, 64)...)
	accept(strings.Repeat("A:\n", 64)+" b\n", append(slices.Repeat([]field.Field{{Name: "A"}}, 63), field.Field{Name: "A", Body: "b"})...)
	accept("A: a"+strings.Repeat("\n b", 100)+"\n", field.Field{Name: "A", Body: "a" + strings.Repeat(" b", 100)})
}

func TestP9_3Examples(t *testing.T) {
	checkAt(t, "example 2", " a\n", 0, api.ErrFormat)
	checkAt(t, "example 2", "a b: c\n", 0, api.ErrName)
	checkAt(t, "example 2", "A: b", 4, api.ErrShort)
	checkAt(t, "example 2", "A: b\x00\n", 4, api.ErrByte)
	l, _, _ := field.Parse("Subject: a\n\t b\nX:\n")
	if s, e := field.Print(l); s != "Subject: a b\nX:\n" || e != api.OK {
		t.Errorf("example 1: Print = %q, %d", s, e)
	}
}

// TestP9_3Body has bodies of about MaxBody bytes that are spread over lines.
func TestP9_3Body(t *testing.T) {
	for _, size := range []int{1, 9, 97, 900} {
		for extra := range 4 {
			text, body := "A: a\nB:", ""
			for len(body)+1+size <= 8192-920+size { // what is missing fits in a last word
				text += " " + wordsOf(1, size) + "\n"
				body += " " + wordsOf(1, size)
			}
			body = body[1:]
			last := 8192 - len(body) - 1 + extra
			for last > 900 { // one more word
				text += " " + wordsOf(1, 40) + "\n"
				last -= 41
			}
			at := len(text)
			text += "\t" + wordsOf(1, last) + "\n"
			if extra > 0 {
				checkAt(t, "a long body", text, at, api.ErrLong)
				checkAt(t, "a long body before another error", text+"\n", at, api.ErrLong)
				checkAt(t, "a long word in a long body", text[:at]+" "+wordsOf(1, 901)+"\n", at+1, api.ErrLong)
				continue
			}
			l, e := checkParse(t, text+" \n\t\n")
			if e != api.OK || len(l) != 2 || len(l[1].Body) != 8192 {
				t.Fatalf("Parse of words of %d bytes = %.80q, %d", size, l, e)
			}
			checkAt(t, "one word more", text+" \n x\n", len(text)+2, api.ErrLong)
			if l, e := checkParse(t, text+"C: d\n"); e != api.OK || len(l) != 3 {
				t.Errorf("another field: %.80q, %d", l, e)
			}
		}
	}
	// The words count with single spaces between them, however many blanks there are.
	wide := "A: a" + strings.Repeat("\n"+strings.Repeat(" ", 900)+"b", 20) + "\n"
	if l, e := checkParse(t, wide); e != api.OK || l[0].Body != "a"+strings.Repeat(" b", 20) {
		t.Errorf("Parse of a wide body = %.80q, %d", l, e)
	}
}

// TestP9_3Article has texts of about api.MaxArticle bytes.
func TestP9_3Article(t *testing.T) {
	line := "A: " + wordsOf(64, 14) + "\n" // 963 bytes
	for n := 65530; n <= 65540; n++ {
		s := strings.Repeat(line, 60)
		for len(s)+100 < n {
			s += " " + strings.Repeat("\t", 48) + "\n"
		}
		s += strings.Repeat(" ", n-len(s)-1) + "\n"
		l, at, e := field.Parse(s)
		if n <= 65536 && (len(l) != 60 || at != 0 || e != api.OK) || n > 65536 && (len(l) != 0 || at != 65536 || e != api.ErrLong) {
			t.Errorf("Parse of %d bytes = %d fields, %d, %d", len(s), len(l), at, e)
		}
	}
	for _, s := range []string{strings.Repeat("\x00", 65537), strings.Repeat("\n", 100000), strings.Repeat("A", 65537), strings.Repeat("A:\n", 30000)} {
		checkAt(t, "a text that is too long", s, 65536, api.ErrLong)
	}
	checkAt(t, "a text of the greatest length", strings.Repeat("A", 65536), 65536, api.ErrShort)
	checkAt(t, "a text of the greatest length", strings.Repeat("A", 65535)+"\n", 998, api.ErrLong)
}

// TestP9_5Inverse checks that Parse is the inverse of Print.
func TestP9_5Inverse(t *testing.T) {
	random := rand.New(rand.NewSource(95))
	for range 2000 {
		var l []field.Field
		for range random.Intn(12) {
			var words []string
			for range random.Intn(30) {
				b := make([]byte, 1+random.Intn(12))
				if random.Intn(20) == 0 {
					b = make([]byte, 880+random.Intn(21))
				}
				for i := range b {
					b[i] = visible[random.Intn(len(visible))]
				}
				words = append(words, string(b))
			}
			name := string(upper[random.Intn(26)]) + strings.Repeat("x-1", random.Intn(14))
			if body := strings.Join(words, " "); len(body) <= 4096 {
				l = append(l, field.Field{Name: name, Body: body})
			}
		}
		s, e := field.Print(l)
		got, at, f := field.Parse(s)
		if e != api.OK || f != api.OK || at != 0 || !slices.Equal(got, l) {
			t.Fatalf("Parse of Print of %q = %q, %d, %d, %d", l, got, at, e, f)
		}
	}
}

// TestP9_5Limits checks the inverse for the greatest names, words and bodies.
func TestP9_5Limits(t *testing.T) {
	name := strings.Repeat("n", 40)
	for _, l := range [][]field.Field{
		{{Name: name, Body: wordsOf(1, 900)}},
		{{Name: name, Body: wordsOf(9, 900) + " " + wordsOf(1, 83)}}, // 8192 bytes
		slices.Repeat([]field.Field{{Name: name, Body: wordsOf(1, 900)}}, 64),
		slices.Repeat([]field.Field{{Name: name, Body: wordsOf(450, 1)}}, 64),
	} {
		s, e := field.Print(l)
		got, at, f := field.Parse(s)
		if e != api.OK || f != api.OK || at != 0 || !slices.Equal(got, l) {
			t.Errorf("Parse of Print of %.80q = %.80q, %d, %d, %d", l, got, at, e, f)
		}
	}
}

// TestP9_5Again prints what was parsed and parses it again.
func TestP9_5Again(t *testing.T) {
	for _, s := range textsOf("A: \tb\n", 7) {
		l, _, e := field.Parse(s)
		if e != api.OK {
			continue
		}
		text, f := field.Print(l)
		again, _, g := field.Parse(text)
		if f != api.OK || g != api.OK || !slices.Equal(again, l) {
			t.Fatalf("%q is parsed as %q, printed as %q and parsed as %q", s, l, text, again)
		}
		if twice, _ := field.Print(again); twice != text {
			t.Fatalf("%q is printed as %q", text, twice)
		}
	}
}
