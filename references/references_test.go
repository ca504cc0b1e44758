package references_test

import (
	"encoding/hex"
	"math/rand"
	"slices"
	"strings"
	"testing"
	"unsafe"

	"bulletin/api"
	"bulletin/references"
)

// These files have the terms of the chapter once more, over the standard library's functions.

// text is the message identifier of an identity.
func text(id api.Id) string { return "<" + hex.EncodeToString(id[:]) + "@hash>" }

// identity is the inverse of text.
func identity(s string) (api.Id, bool) {
	b, err := hex.DecodeString(strings.TrimSuffix(strings.TrimPrefix(s, "<"), "@hash>"))
	if err != nil || len(b) != 32 || text(api.Id(b)) != s {
		return api.Id{}, false
	}
	return api.Id(b), true
}

// numbered returns n different identities.
func numbered(n int) []api.Id {
	var l []api.Id
	for i := range n {
		l = append(l, api.Id{byte(i >> 8), 31: byte(i) + 1, 15: byte(i) ^ 0xA5})
	}
	return l
}

// check is what Check returns by the words of the chapter.
func check(l []api.Id) api.Errno {
	if len(l) > 20 {
		return api.ErrLimit
	}
	for i, id := range l {
		if id == (api.Id{}) {
			return api.ErrArgument
		}
		if slices.Index(l, id) < i {
			return api.ErrDuplicate
		}
	}
	return api.OK
}

// checkList compares Check and Print with the model, and Parse of the text.
func checkList(t *testing.T, l []api.Id) api.Errno {
	t.Helper()
	want := check(l)
	if e := references.Check(l); e != want {
		t.Fatalf("Check(%x) = %d, want %d", l, e, want)
	}
	var texts []string
	for _, id := range l {
		texts = append(texts, text(id))
	}
	all := strings.Join(texts, " ")
	wantText := all
	if want != api.OK {
		wantText = ""
	}
	if s, e := references.Print(l); s != wantText || e != want {
		t.Fatalf("Print(%x) = %q, %d, want %q, %d", l, s, e, wantText, want)
	}
	if e := checkParse(t, all); (e == api.OK) != (want == api.OK) {
		t.Fatalf("Parse of the text of %x: %d, but Check: %d", l, e, want)
	}
	return want
}

// parse is what Parse returns by the words of the chapter.
func parse(s string) ([]api.Id, int, api.Errno) {
	var l []api.Id
	at := 0
	for _, token := range strings.Split(strings.ReplaceAll(s, "\t", " "), " ") {
		id, ok := identity(token)
		switch {
		case token == "":
		case len(l) == 20:
			return nil, at, api.ErrLimit
		case !ok:
			return nil, at, api.ErrFormat
		case id == api.Id{}:
			return nil, at, api.ErrArgument
		case slices.Contains(l, id):
			return nil, at, api.ErrDuplicate
		default:
			l = append(l, id)
		}
		at += len(token) + 1
	}
	return l, 0, api.OK
}

// checkParse compares Parse with the model.
func checkParse(t *testing.T, s string) api.Errno {
	t.Helper()
	want, wantAt, wanted := parse(s)
	if l, at, e := references.Parse(s); !slices.Equal(l, want) || at != wantAt || e != wanted {
		t.Fatalf("Parse(%.200q) = %x, %d, %d, want %x, %d, %d", s, l, at, e, want, wantAt, wanted)
	}
	return wanted
}

// lists returns all lists of up to so many of some identities, with repetitions.
func lists(most int, ids ...api.Id) [][]api.Id {
	all, from := [][]api.Id{nil}, 0
	for range most {
		to := len(all)
		for _, l := range all[from:to] {
			for _, id := range ids {
				all = append(all, append(slices.Clone(l), id))
			}
		}
		from = to
	}
	return all
}

// TestP14_1Short has all short lists of a few identities, among them the zero identity.
func TestP14_1Short(t *testing.T) {
	errors := map[api.Errno]int{}
	for _, l := range lists(5, api.Id{}, api.Id{1}, api.Id{31: 1}, api.Id{2}) {
		errors[checkList(t, l)]++
	}
	for _, e := range []api.Errno{api.OK, api.ErrArgument, api.ErrDuplicate} {
		if errors[e] < 10 {
			t.Errorf("the errors are %v", errors)
		}
	}
}

// TestP14_1Numbers has lists of up to 25 elements, correct ones and others.
func TestP14_1Numbers(t *testing.T) {
	for n := range 26 {
		l := numbered(n)
		want := api.OK
		if n > 20 {
			want = api.ErrLimit
		}
		if e := checkList(t, l); e != want {
			t.Errorf("%d elements: %d", n, e)
		}
		for i := range l {
			for _, id := range []api.Id{{}, l[0], l[n-1], l[n/2], {1}} {
				changed := slices.Clone(l)
				changed[i] = id
				checkList(t, changed)
				changed[n-1] = api.Id{}
				checkList(t, changed)
			}
		}
	}
}

func TestP14_1Errors(t *testing.T) {
	a, b, zero := api.Id{1}, api.Id{31: 1}, api.Id{}
	wants := func(want api.Errno, l ...api.Id) {
		t.Helper()
		if e := checkList(t, l); e != want {
			t.Errorf("Check(%.200x): %d, want %d", l, e, want)
		}
	}
	wants(api.OK)
	wants(api.OK, a, b)
	wants(api.ErrArgument, zero)
	wants(api.ErrArgument, zero, zero)
	wants(api.ErrArgument, a, zero, a)
	wants(api.ErrDuplicate, a, a, zero)
	wants(api.ErrDuplicate, a, b, a)
	wants(api.OK, numbered(20)...)
	wants(api.ErrLimit, numbered(21)...)
	wants(api.ErrLimit, slices.Repeat([]api.Id{a}, 21)...)
	wants(api.ErrDuplicate, slices.Repeat([]api.Id{a}, 20)...)
	wants(api.ErrLimit, slices.Repeat([]api.Id{zero}, 21)...)
	wants(api.ErrArgument, slices.Repeat([]api.Id{zero}, 20)...)
	wants(api.ErrLimit, numbered(5000)...)
}

// TestP14_1Close has identities that differ in one bit.
func TestP14_1Close(t *testing.T) {
	id := api.Id{5, 31: 200}
	for bit := range 256 {
		changed := id
		changed[bit/8] ^= 1 << (bit % 8)
		if e := checkList(t, []api.Id{id, changed}); e != api.OK {
			t.Errorf("bit %d: %d", bit, e)
		}
		alone := api.Id{}
		alone[bit/8] = 1 << (bit % 8)
		if e := checkList(t, []api.Id{alone}); e != api.OK {
			t.Errorf("bit %d alone: %d", bit, e)
		}
	}
}

// TestP14_2Short has all short texts of identifiers, blanks and others.
func TestP14_2Short(t *testing.T) {
	parts := []string{" ", "\t", text(api.Id{1}), text(api.Id{171}), text(api.Id{}), "x", "\n"}
	errors := map[api.Errno]int{}
	all := []string{""}
	for from := 0; len(all) < 30000; {
		to := len(all)
		for _, s := range all[from:to] {
			for _, part := range parts {
				all = append(all, s+part)
			}
		}
		from = to
	}
	for _, s := range all {
		errors[checkParse(t, s)]++
	}
	for _, e := range []api.Errno{api.OK, api.ErrFormat, api.ErrArgument, api.ErrDuplicate} {
		if errors[e] < 50 {
			t.Errorf("the errors are %v", errors)
		}
	}
}

// TestP14_2Bytes has every byte at every place of some texts.
func TestP14_2Bytes(t *testing.T) {
	a, b := text(api.Id{18, 31: 171}), text(api.Id{18, 31: 172})
	for _, s := range []string{a, a + " " + b, "\t" + a + " \t" + b + " "} {
		for place := range len(s) {
			for c := range 256 {
				changed := []byte(s)
				changed[place] = byte(c)
				checkParse(t, string(changed))
			}
			checkParse(t, s[:place])
			checkParse(t, s[place:])
			checkParse(t, s[:place]+s[place+1:])
			checkParse(t, s[:place]+" "+s[place:])
			checkParse(t, s[:place]+"a"+s[place:])
		}
	}
}

// TestP14_2Numbers has texts of up to 25 tokens, of which some are wrong.
func TestP14_2Numbers(t *testing.T) {
	for n := 1; n < 26; n++ {
		var tokens []string
		for _, id := range numbered(n) {
			tokens = append(tokens, text(id))
		}
		want := api.OK
		if n > 20 {
			want = api.ErrLimit
		}
		for _, separator := range []string{" ", "\t", " \t\t  "} {
			if e := checkParse(t, strings.Join(tokens, separator)); e != want {
				t.Errorf("%d tokens: %d", n, e)
			}
			if e := checkParse(t, separator+strings.Join(tokens, separator)+separator); e != want {
				t.Errorf("%d tokens between blanks: %d", n, e)
			}
		}
		for i := range tokens {
			for _, wrong := range []string{"", "x", text(api.Id{}), tokens[0], tokens[n-1], tokens[n/2], tokens[i] + tokens[0], strings.ToUpper(tokens[i])} {
				changed := slices.Clone(tokens)
				changed[i] = wrong
				checkParse(t, strings.Join(changed, " "))
				changed[n-1] = "y"
				checkParse(t, strings.Join(changed, "  "))
			}
		}
	}
}

func TestP14_2Errors(t *testing.T) {
	a, b, zero := text(api.Id{1}), text(api.Id{2}), text(api.Id{})
	wants := func(s string, wantAt int, want api.Errno) {
		t.Helper()
		checkParse(t, s)
		if l, at, e := references.Parse(s); len(l) != 0 || at != wantAt || e != want {
			t.Errorf("Parse(%.100q) = %x, %d, %d, want %d, %d", s, l, at, e, wantAt, want)
		}
	}
	many := ""
	for _, id := range numbered(20) {
		many += text(id) + " "
	}
	wants("", 0, api.OK)
	wants(" \t ", 0, api.OK)
	wants("x", 0, api.ErrFormat)
	wants(" x", 1, api.ErrFormat)
	wants("\n", 0, api.ErrFormat)
	wants(a+"\n"+b, 0, api.ErrFormat)
	wants(a+b, 0, api.ErrFormat)
	wants(a+",", 0, api.ErrFormat)
	wants(a+" , "+b, 72, api.ErrFormat)
	wants(a[:70], 0, api.ErrFormat)
	wants(a+"\t"+zero+" x", 72, api.ErrArgument)
	wants(a+"  "+a+" x", 73, api.ErrDuplicate)
	wants(a+" "+b+"\t"+a, 144, api.ErrDuplicate)
	wants(zero+" "+zero, 0, api.ErrArgument)
	wants("x "+zero, 0, api.ErrFormat)
	wants(many+"x", 1440, api.ErrLimit)
	wants(many+zero, 1440, api.ErrLimit)
	wants(many+many, 1440, api.ErrLimit)
	wants(many+"\t "+b+" x", 1442, api.ErrLimit)
	wants(a+" "+many, 1440, api.ErrLimit)
	wants(a+" "+a+" "+many, 72, api.ErrDuplicate)
	wants(strings.Repeat("x", 1<<20), 0, api.ErrFormat)
	wants(strings.Repeat(" ", 1<<20)+"x", 1<<20, api.ErrFormat)
	wants(strings.Repeat(a+" ", 10000), 72, api.ErrDuplicate)
	if l, at, e := references.Parse(many + strings.Repeat("\t ", 1<<19)); !slices.Equal(l, numbered(20)) || at != 0 || e != api.OK {
		t.Errorf("Parse of 20 identifiers = %x, %d, %d", l, at, e)
	}
}

func TestP14_7Text(t *testing.T) {
	random := rand.New(rand.NewSource(147))
	for range 300 {
		l := make([]api.Id, random.Intn(21))
		for i := range l {
			random.Read(l[i][:])
		}
		s, e := references.Print(l)
		if e != api.OK {
			t.Fatalf("Print(%x): %d", l, e)
		}
		if m, at, e := references.Parse(s); !slices.Equal(m, l) || at != 0 || e != api.OK {
			t.Fatalf("Parse(%q) = %x, %d, %d", s, m, at, e)
		}
		checkParse(t, "\t"+strings.ReplaceAll(s, " ", "\t  ")+" ")
	}
}

// TestP14_7RetainedText checks that the list of a text keeps no memory of it.
func TestP14_7RetainedText(t *testing.T) {
	l := numbered(3)
	s, _ := references.Print(l)
	b := []byte(s)
	m, _, _ := references.Parse(unsafe.String(&b[0], len(b)))
	clear(b)
	if !slices.Equal(m, l) {
		t.Errorf("the list is now %x", m)
	}
	l[0], m[1] = api.Id{9}, api.Id{8}
	if again, _, _ := references.Parse(s); !slices.Equal(again, numbered(3)) {
		t.Errorf("Parse = %x", again)
	}
}
