package field_test

import (
	"math/rand"
	"slices"
	"strings"
	"testing"

	"bulletin/api"
	"bulletin/field"
)

// This file and parse_test.go have the terms of the chapter once more, over sets of bytes that are written out.
const (
	lower   = "abcdefghijklmnopqrstuvwxyz"
	upper   = "ABCDEFGHIJKLMNOPQRSTUVWXYZ"
	digits  = "0123456789"
	visible = "!\"#$%&'()*+,-./" + digits + ":;<=>?@" + upper + "[\\]^_`" + lower + "{|}~"
)

// only reports whether s has no other bytes than some.
func only(s, bytes string) bool {
	for i := range len(s) {
		if strings.IndexByte(bytes, s[i]) < 0 {
			return false
		}
	}
	return true
}

func isName(s string) bool {
	return len(s) >= 1 && len(s) <= 40 && only(s[:1], lower+upper) && only(s, lower+upper+digits+"-")
}

// fold is the text of a field by the words of the chapter.
func fold(f field.Field) string {
	lines := []string{f.Name + ":"}
	hasWord := false
	for _, word := range strings.Fields(f.Body) {
		last := len(lines) - 1
		if !hasWord || len(lines[last]+" "+word) <= 78 {
			lines[last] += " " + word
		} else {
			lines = append(lines, " "+word)
		}
		hasWord = true
	}
	return strings.Join(lines, "\n") + "\n"
}

// check is the error of a field by the words of the chapter.
func check(f field.Field) api.Errno {
	if !isName(f.Name) {
		return api.ErrName
	}
	if !only(f.Body, visible+" ") {
		return api.ErrByte
	}
	words := strings.Split(f.Body, " ")
	if f.Body == "" {
		words = nil
	}
	long := len(f.Body) > 8192
	for _, word := range words {
		if word == "" {
			return api.ErrFormat
		}
		long = long || len(word) > 900
	}
	if long {
		return api.ErrLong
	}
	return api.OK
}

// checkFold compares Check and Fold with the model.
func checkFold(t *testing.T, f field.Field) api.Errno {
	t.Helper()
	want, text := check(f), ""
	if want == api.OK {
		text = fold(f)
	}
	if e := f.Check(); e != want {
		t.Fatalf("Check of %.200q = %d, want %d", f, e, want)
	}
	if got, e := f.Fold(); got != text || e != want {
		t.Fatalf("Fold of %.200q = %q, %d, want %q, %d", f, got, e, text, want)
	}
	return want
}

// textsOf returns all texts of up to so many bytes of an alphabet.
func textsOf(alphabet string, most int) []string {
	all, from := []string{""}, 0
	for range most {
		to := len(all)
		for _, s := range all[from:to] {
			for i := range len(alphabet) {
				all = append(all, s+alphabet[i:i+1])
			}
		}
		from = to
	}
	return all
}

// wordsOf returns n words of so many bytes.
func wordsOf(n, size int) string {
	return strings.TrimSuffix(strings.Repeat(strings.Repeat("w", size)+" ", n), " ")
}

func TestP9_1Types(t *testing.T) {
	if field.MaxFieldName != 40 || field.MaxBody != 8192 || field.MaxWord != 900 || field.Width != 78 {
		t.Error("the limits are not those of the document")
	}
	if f := (field.Field{Name: "a", Body: "b"}); f != (field.Field{"a", "b"}) {
		t.Error("a field has other parts than those of the document")
	}
}

// TestP9_1ValidName checks each byte at each place, and all lengths.
func TestP9_1ValidName(t *testing.T) {
	valid := func(s string) {
		t.Helper()
		if got := field.ValidName(s); got != isName(s) {
			t.Errorf("ValidName(%q) = %t", s, got)
		}
		want := api.OK
		if !isName(s) {
			want = api.ErrName
		}
		if e := (field.Field{Name: s, Body: "b"}).Check(); e != want {
			t.Errorf("Check with the name %q = %d", s, e)
		}
	}
	for c := range 256 {
		for place := range 4 {
			name := []byte("Xyzw")
			name[place] = byte(c)
			valid(string(name))
		}
		valid(string([]byte{byte(c)}))
	}
	for n := range 90 {
		valid(strings.Repeat("a", n))
		valid("Z" + strings.Repeat("-", n))
		valid("m" + strings.Repeat("9", n))
	}
	for _, s := range textsOf("aZ5-: _", 4) {
		valid(s)
	}
	for _, s := range []string{"\u00c4", "A\u00e4", "\u017f", "a\u212a", "Message-ID", "X-1", "a.b", "a\n", "-a", "1a"} {
		valid(s)
	}
}

func TestP9_1Bytes(t *testing.T) {
	for c := range 256 {
		for _, body := range []string{"\xff", "\xffbc", "b\xffc", "bc\xff", "b \xff c"} {
			checkFold(t, field.Field{Name: "A", Body: strings.ReplaceAll(body, "\xff", string([]byte{byte(c)}))})
		}
	}
	for _, body := range textsOf("ab \t\n\x00\xc3\xa4~", 4) {
		checkFold(t, field.Field{Name: "A", Body: body})
	}
}

func TestP9_1Long(t *testing.T) {
	accept := func(body string, want api.Errno) {
		t.Helper()
		if e := checkFold(t, field.Field{Name: "A", Body: body}); e != want {
			t.Errorf("Check of a body of %d bytes = %d, want %d", len(body), e, want)
		}
	}
	for n := 895; n <= 905; n++ {
		want := api.OK
		if n > 900 {
			want = api.ErrLong
		}
		word := strings.Repeat("x", n)
		for _, body := range []string{word, "a " + word, word + " b", "a " + word + " b"} {
			accept(body, want)
		}
	}
	for n := 8180; n <= 8200; n++ {
		want := api.OK
		if n > 8192 {
			want = api.ErrLong
		}
		for _, size := range []int{1, 2, 10, 900} {
			body := strings.Repeat(strings.Repeat("x", size)+" ", n/(size+1)+1)[:n]
			if strings.HasSuffix(body, " ") {
				body = body[:n-1] + "y"
			}
			if strings.HasSuffix(body, "xy") && size == 900 {
				body = body[:n-2] + " y" // not a word of more than 900 bytes
			}
			if len(body) == n && check(field.Field{Name: "A", Body: body}) != api.ErrFormat {
				accept(body, want)
			}
		}
	}
	accept(strings.Repeat("x", 8193), api.ErrLong)
	accept(strings.Repeat("x", 100000), api.ErrLong)
}

// TestP9_1Order checks that the errors come in their order.
func TestP9_1Order(t *testing.T) {
	long := strings.Repeat("x", 901)
	for i, c := range []struct {
		name, body string
		want       api.Errno
	}{
		{"", "", api.ErrName}, {"", "\x00  " + long, api.ErrName}, {"1", "a  b", api.ErrName}, {"a b", long, api.ErrName}, {strings.Repeat("a", 41), "\n", api.ErrName},
		{"A", "\x00", api.ErrByte}, {"A", " \t " + long, api.ErrByte}, {"A", long + "\n", api.ErrByte}, {"A", "a\tb", api.ErrByte}, {"A", "\u00e4", api.ErrByte}, {"A", "\x7f", api.ErrByte},
		{"A", " ", api.ErrFormat}, {"A", " " + long, api.ErrFormat}, {"A", long + " ", api.ErrFormat}, {"A", "a  " + long, api.ErrFormat}, {"A", strings.Repeat(" ", 8193), api.ErrFormat},
		{"A", long, api.ErrLong}, {"A", "a " + long, api.ErrLong},
		{"A", "", api.OK}, {"A", "b", api.OK}, {"A", "b c", api.OK}, {"A", ": :", api.OK},
	} {
		if got := checkFold(t, field.Field{Name: c.name, Body: c.body}); got != c.want {
			t.Errorf("%d: %d, want %d", i, got, c.want)
		}
	}
}

func TestP9_2Fold(t *testing.T) {
	for n := range 200 { // one word, two words, and what follows a word that is too long
		for _, body := range []string{wordsOf(1, n), "a " + wordsOf(1, n), wordsOf(1, n) + " b", "a " + wordsOf(1, n) + " b c", wordsOf(2, n), wordsOf(n, 1), wordsOf(n, 10)} {
			for _, name := range []string{"X", "Subject", strings.Repeat("n", 40)} {
				checkFold(t, field.Field{Name: name, Body: body})
			}
		}
	}
	random := rand.New(rand.NewSource(92))
	for range 3000 {
		var words []string
		for range random.Intn(40) {
			size := 1 + random.Intn(20)
			if random.Intn(10) == 0 {
				size = 70 + random.Intn(12)
			}
			words = append(words, wordsOf(1, size))
		}
		f := field.Field{Name: strings.Repeat("n", 1+random.Intn(40)), Body: strings.Join(words, " ")}
		checkFold(t, f)
		text, _ := f.Fold()
		for _, line := range strings.Split(text, "\n") {
			if len(line) > 78 && len(strings.Fields(line)) > 2 {
				t.Fatalf("the line %q is too long", line)
			}
		}
	}
}

// TestP9_2Example3 is the third example of the chapter, with the edges of the width.
func TestP9_2Example3(t *testing.T) {
	for _, c := range []struct{ name, body, want string }{
		{"X", wordsOf(12, 10), "X: " + wordsOf(6, 10) + "\n " + wordsOf(6, 10) + "\n"},
		{"X", "", "X:\n"},
		{"X", "a", "X: a\n"},
		{"X", "a " + wordsOf(1, 73), "X: a " + wordsOf(1, 73) + "\n"},   // 78 bytes
		{"X", "a " + wordsOf(1, 74), "X: a\n " + wordsOf(1, 74) + "\n"}, // 79 bytes
		{"X", wordsOf(1, 90), "X: " + wordsOf(1, 90) + "\n"},            // the first word stays
		{"X", wordsOf(2, 90), "X: " + wordsOf(1, 90) + "\n " + wordsOf(1, 90) + "\n"},
		{"X", "a " + wordsOf(1, 75) + " " + wordsOf(1, 77) + " c", "X: a\n " + wordsOf(1, 75) + "\n " + wordsOf(1, 77) + "\n c\n"},
		{"X", "a " + wordsOf(1, 75) + " c", "X: a\n " + wordsOf(1, 75) + " c\n"}, // the second line has 78 bytes
		{"X", "a " + wordsOf(1, 76) + " c", "X: a\n " + wordsOf(1, 76) + "\n c\n"},
	} {
		if got, e := (field.Field{Name: c.name, Body: c.body}).Fold(); got != c.want || e != api.OK {
			t.Errorf("Fold of %q = %q, %d, want %q", c.body, got, e, c.want)
		}
	}
}

func TestP9_2Print(t *testing.T) {
	random := rand.New(rand.NewSource(922))
	for n := range 70 {
		var l []field.Field
		want := ""
		for range n {
			f := field.Field{Name: strings.Repeat("n", 1+random.Intn(40)), Body: wordsOf(random.Intn(20), 1+random.Intn(9))}
			l = append(l, f)
			want += fold(f)
		}
		wanted := api.OK
		if n > 64 {
			want, wanted = "", api.ErrLimit
		}
		if got, e := field.Print(l); got != want || e != wanted {
			t.Fatalf("Print of %d fields = %q, %d, want %q, %d", n, got, e, want, wanted)
		}
	}
}

func TestP9_2PrintErrors(t *testing.T) {
	good, long := field.Field{Name: "A", Body: "b"}, field.Field{Name: "A", Body: wordsOf(9, 900)}
	name, wrong := field.Field{Name: "1", Body: "b"}, field.Field{Name: "A", Body: "\x00"}
	format, big := field.Field{Name: "A", Body: " b"}, field.Field{Name: "A", Body: wordsOf(1, 901)}
	for i, c := range []struct {
		l    []field.Field
		want api.Errno
	}{
		{[]field.Field{name}, api.ErrName}, {[]field.Field{wrong}, api.ErrByte}, {[]field.Field{format}, api.ErrFormat}, {[]field.Field{big}, api.ErrLong},
		{[]field.Field{good, format, name}, api.ErrFormat}, {[]field.Field{good, name, format}, api.ErrName}, {[]field.Field{good, good, wrong}, api.ErrByte}, {[]field.Field{big, name}, api.ErrLong},
		{slices.Repeat([]field.Field{name}, 64), api.ErrName}, {slices.Repeat([]field.Field{name}, 65), api.ErrLimit}, {slices.Repeat([]field.Field{good}, 65), api.ErrLimit}, {slices.Repeat([]field.Field{good}, 1000), api.ErrLimit},
		{append(slices.Repeat([]field.Field{long}, 20), name), api.ErrName}, {slices.Repeat([]field.Field{long}, 20), api.ErrLong}, {slices.Repeat([]field.Field{long}, 65), api.ErrLimit},
	} {
		if got, e := field.Print(c.l); got != "" || e != c.want {
			t.Errorf("%d: Print = %.80q, %d, want %d", i, got, e, c.want)
		}
	}
}

// TestP9_2PrintLong has texts of about api.MaxArticle bytes.
func TestP9_2PrintLong(t *testing.T) {
	for extra := range 12 {
		var l []field.Field
		for range 64 { // 64 times 1022 bytes are 65408
			l = append(l, field.Field{Name: "A", Body: wordsOf(1, 500) + " " + wordsOf(1, 516)})
		}
		l[7].Body += wordsOf(1, 123+extra)
		size := 0
		for _, f := range l {
			size += len(fold(f))
		}
		got, e := field.Print(l)
		if size <= api.MaxArticle && (len(got) != size || e != api.OK) || size > api.MaxArticle && (got != "" || e != api.ErrLong) {
			t.Errorf("Print of %d bytes has %d bytes, %d", size, len(got), e)
		}
		if extra == 0 && size >= api.MaxArticle || extra == 11 && size <= api.MaxArticle {
			t.Errorf("the text has %d bytes", size)
		}
	}
}

// mixed returns lists of fields with names that differ in case, with fields that are not valid.
func mixed() [][]field.Field {
	var all [][]field.Field
	names := []string{"a", "A", "b", "\xc4", "\xe4", "", "a "}
	random := rand.New(rand.NewSource(94))
	for range 400 {
		var l []field.Field
		for i := range random.Intn(9) {
			l = append(l, field.Field{Name: names[random.Intn(len(names))], Body: strings.Repeat("\n", i)})
		}
		all = append(all, l)
	}
	return all
}

// lowerOf returns a name of mixed in lower case.
func lowerOf(name string) string { return strings.ReplaceAll(name, "A", "a") }

func TestP9_4Selection(t *testing.T) {
	for _, l := range mixed() {
		before := slices.Clone(l)
		for _, name := range []string{"a", "A", "b", "B", "\xc4", "\xe4", "", "a ", " a", "c", "aa"} {
			key := strings.ReplaceAll(lowerOf(name), "B", "b")
			body, count := "", 0
			var rest []field.Field
			for _, f := range l {
				if lowerOf(f.Name) != key {
					rest = append(rest, f)
					continue
				}
				if count == 0 {
					body = f.Body
				}
				count++
			}
			if got, n := field.Get(l, name); got != body || n != count {
				t.Fatalf("Get(%q, %q) = %q, %d, want %q, %d", l, name, got, n, body, count)
			}
			if got := field.Without(l, name); !slices.Equal(got, rest) {
				t.Fatalf("Without(%q, %q) = %q, want %q", l, name, got, rest)
			}
			f := field.Field{Name: name, Body: "new\x00"}
			if got := field.With(l, f); !slices.Equal(got, append(rest, f)) {
				t.Fatalf("With(%q, %q) = %q", l, f, got)
			}
		}
		if !slices.Equal(l, before) {
			t.Fatalf("the argument was changed: %q", l)
		}
	}
}

func TestP9_4Names(t *testing.T) {
	for _, l := range mixed() {
		var want []string
		for _, f := range l {
			if !slices.Contains(want, lowerOf(f.Name)) {
				want = append(want, lowerOf(f.Name))
			}
		}
		if got := field.Names(l); !slices.Equal(got, want) {
			t.Fatalf("Names(%q) = %q, want %q", l, got, want)
		}
		for _, names := range [][]string{nil, {}, {"a"}, {"A"}, {"B", "A"}, {"b"}, {"\xe4", ""}, {"\xc4"}, {"a ", "a ", "c"}, want} {
			var rest []field.Field
			for _, f := range l {
				known := false
				for _, name := range names {
					known = known || strings.ReplaceAll(lowerOf(name), "B", "b") == lowerOf(f.Name)
				}
				if !known {
					rest = append(rest, f)
				}
			}
			before := slices.Clone(names)
			if got := field.Unknown(l, names); !slices.Equal(got, rest) || !slices.Equal(names, before) {
				t.Fatalf("Unknown(%q, %q) = %q, want %q", l, names, got, rest)
			}
		}
	}
}

func TestP9_4Letters(t *testing.T) {
	var l []field.Field
	for i := range 26 {
		l = append(l, field.Field{Name: upper[i:i+1] + lower, Body: digits[i%10 : i%10+1]})
	}
	for i, f := range l {
		name := lower[i:i+1] + upper
		if got, n := field.Get(l, name); got != f.Body || n != 1 {
			t.Errorf("Get of %q = %q, %d", name, got, n)
		}
		if got := field.Names(l); got[i] != strings.ToLower(name) || len(got) != 26 {
			t.Errorf("Names = %q", got)
		}
	}
	for _, pair := range []string{"[{", "@`", "]}", "^~", "_\x7f", "Kk\u212a", "Ss\u017f"} { // no letters that differ in case
		a, b := pair[:1], pair[1:]
		if len(b) > 1 {
			a, b = pair[:2], pair[2:]
		}
		if got, n := field.Get([]field.Field{{Name: a, Body: "c"}}, b); got != "" || n != 0 {
			t.Errorf("Get of %q finds %q", b, a)
		}
	}
}

func TestP9_4Empty(t *testing.T) {
	if got, n := field.Get(nil, ""); got != "" || n != 0 {
		t.Errorf("Get = %q, %d", got, n)
	}
	if len(field.Names(nil)) != 0 || len(field.Unknown(nil, []string{"a"})) != 0 || len(field.Without(nil, "a")) != 0 {
		t.Error("something was found in an empty list")
	}
	if got := field.With(nil, field.Field{}); len(got) != 1 || got[0] != (field.Field{}) {
		t.Errorf("With = %q", got)
	}
}

// TestP9_5NewMemory checks that arguments are neither modified nor retained, and that results are new.
func TestP9_5NewMemory(t *testing.T) {
	whole := []field.Field{{"A", "1"}, {"B", "2"}, {"C", "3"}, {"D", "4"}}
	l := whole[:2]
	with := field.With(l, field.Field{Name: "E", Body: "5"})
	without := field.Without(l, "C")
	unknown := field.Unknown(l, nil)
	field.With(without, field.Field{Name: "F"})
	if whole[2] != (field.Field{"C", "3"}) || whole[3] != (field.Field{"D", "4"}) {
		t.Errorf("the list was changed behind its end: %q", whole)
	}
	l[0].Name = "X"
	for _, got := range [][]field.Field{with, without, unknown} {
		if got[0] != (field.Field{"A", "1"}) || got[1] != (field.Field{"B", "2"}) {
			t.Errorf("a result shares memory with the argument: %q", got)
		}
		got[1].Body = "changed"
	}
	if l[1].Body != "2" {
		t.Errorf("the argument shares memory with a result: %q", l)
	}
}
