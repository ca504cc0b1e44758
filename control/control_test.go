package control_test

import (
	"math/rand"
	"regexp"
	"slices"
	"strings"
	"testing"

	"bulletin/api"
	"bulletin/control"
	"bulletin/signer"
)

// These files have the terms of the chapter once more, over regular expressions and other functions of the standard library.

var (
	groupForm = regexp.MustCompile(`^[a-z][-a-z0-9+_]{0,19}(\.[a-z][-a-z0-9+_]{0,19}){0,9}$`)
	otherByte = regexp.MustCompile(`[^ -~]`)
)

func isGroup(s string) bool { return len(s) <= 80 && groupForm.MatchString(s) }

// textError is the error of the text of a definition.
func textError(s string) api.Errno {
	switch {
	case len(s) > 200:
		return api.ErrLong
	case otherByte.MatchString(s):
		return api.ErrByte
	case s != strings.Trim(s, " "):
		return api.ErrFormat
	}
	return api.OK
}

// sequenceError is the error of a list of authors.
func sequenceError(l []api.Author) api.Errno {
	if len(l) > 8 {
		return api.ErrLimit
	}
	for i := range l {
		if i > 0 && string(l[i-1][:]) >= string(l[i][:]) {
			return api.ErrSequence
		}
	}
	return api.OK
}

// kind is what the table of the chapter says of a kind.
type kind struct {
	name   string
	fields string // T for Target, G for Group, V for Version, M for Moderated, Moderators and Text, N for Number, P for Public
}

var kinds = map[int]kind{1: {"cancel", "T"}, 2: {"approve", "TG"}, 3: {"define", "GVM"}, 4: {"remove", "GV"}, 5: {"rekey", "NP"}}

// check is what Check returns by the words of the chapter.
func check(c control.Command) api.Errno {
	k, known := kinds[c.Kind]
	has := func(field string) bool { return strings.Contains(k.fields, field) }
	wrong := []struct {
		is bool
		e  api.Errno
	}{
		{!known, api.ErrKind},
		{!has("T") && c.Target != api.Id{}, api.ErrFormat},
		{!has("G") && c.Group != "", api.ErrFormat},
		{!has("V") && c.Version != 0, api.ErrFormat},
		{!has("M") && (c.Moderated || len(c.Moderators) > 0 || c.Text != ""), api.ErrFormat},
		{!has("N") && c.Number != 0, api.ErrFormat},
		{!has("P") && c.Public != signer.Public{}, api.ErrFormat},
		{has("T") && c.Target == api.Id{}, api.ErrArgument},
		{has("G") && !isGroup(c.Group), api.ErrName},
		{has("V") && (c.Version < 0 || c.Version > 1000000), api.ErrRange},
		{c.Moderated && len(c.Moderators) == 0, api.ErrArgument},
		{c.Moderated, sequenceError(c.Moderators)},
		{!c.Moderated && len(c.Moderators) > 0, api.ErrFormat},
		{has("M"), textError(c.Text)},
		{has("N") && (c.Number < 1 || c.Number > 1000), api.ErrRange},
		{has("P"), c.Public.Check()},
	}
	for _, w := range wrong {
		if w.is && w.e != api.OK {
			return w.e
		}
	}
	return api.OK
}

// same reports whether two commands are equal.
func same(a, b control.Command) bool {
	l, m := a.Moderators, b.Moderators
	a.Moderators, b.Moderators = nil, nil
	return slices.Equal(l, m) && fieldsOf(a) == fieldsOf(b)
}

// fields are the fields of a command without the moderators, so that they can be compared.
type fields struct {
	kind      int
	target    api.Id
	group     string
	version   int
	moderated bool
	text      string
	number    int
	public    signer.Public
}

func fieldsOf(c control.Command) fields {
	return fields{c.Kind, c.Target, c.Group, c.Version, c.Moderated, c.Text, c.Number, c.Public}
}

// checkCommand compares Check and Print with the model, and Parse of the text with the command.
func checkCommand(t *testing.T, c control.Command) api.Errno {
	t.Helper()
	want := check(c)
	if e := c.Check(); e != want {
		t.Fatalf("Check of %.300v = %d, want %d", c, e, want)
	}
	s, e := control.Print(c)
	if e != want || s != text(c) && want == api.OK || s != "" && want != api.OK {
		t.Fatalf("Print(%.300v) = %q, %d, want %d", c, s, e, want)
	}
	if want == api.OK {
		if d, at, e := control.Parse(s); !same(c, d) || at != 0 || e != api.OK {
			t.Fatalf("Parse(%q) = %v, %d, %d, want %v", s, d, at, e, c)
		}
		if len(s) > 900 || otherByte.MatchString(s) || s != strings.Trim(s, " ") {
			t.Fatalf("the text of %v is %q", c, s)
		}
	}
	return want
}

// authors returns n authors in increasing order.
func authors(n int) []api.Author {
	var l []api.Author
	for i := range n {
		l = append(l, api.Author{byte(i >> 8), byte(i) + 1, 15: byte(255 - i)})
	}
	return l
}

func TestP17_1Types(t *testing.T) {
	if control.Cancel != 1 || control.Approve != 2 || control.Define != 3 || control.Remove != 4 || control.Rekey != 5 {
		t.Error("the kinds are not those of the document")
	}
	if control.MaxModerators != 8 || control.MaxVersion != 1000000 || control.MaxText != 200 || control.MaxNumber != 1000 {
		t.Error("the limits are not those of the document")
	}
}

// TestP17_1Fields has commands of all kinds with all combinations of fields, so also those that do not belong to the kind.
func TestP17_1Fields(t *testing.T) {
	set := []func(c *control.Command){
		func(c *control.Command) { c.Target = api.Id{31: 1} },
		func(c *control.Command) { c.Group = "rec.boats" },
		func(c *control.Command) { c.Version = 7 },
		func(c *control.Command) { c.Moderated = true },
		func(c *control.Command) { c.Moderators = authors(2) },
		func(c *control.Command) { c.Moderators = []api.Author{} },
		func(c *control.Command) { c.Text = "Sailing" },
		func(c *control.Command) { c.Number = 3 },
		func(c *control.Command) { c.Public.Height = 4 },
		func(c *control.Command) { c.Public.Root[15] = 1 },
	}
	errors := map[api.Errno]int{}
	for kind := -2; kind < 9; kind++ {
		for chosen := range 1 << len(set) {
			c := control.Command{Kind: kind}
			for i, f := range set {
				if chosen&(1<<i) != 0 {
					f(&c)
				}
			}
			errors[checkCommand(t, c)]++
		}
	}
	for _, e := range []api.Errno{api.OK, api.ErrKind, api.ErrFormat, api.ErrArgument, api.ErrName, api.ErrRange} {
		if errors[e] < 2 {
			t.Errorf("the errors are %v", errors)
		}
	}
	for _, kind := range []int{-1 << 63, 1<<63 - 1, 1 << 32, 1<<32 + 1, 256 + 1} {
		if e := checkCommand(t, control.Command{Kind: kind, Target: api.Id{1}}); e != api.ErrKind {
			t.Errorf("Check of the kind %d: %d", kind, e)
		}
	}
}

// TestP17_1Values has commands of all kinds with all combinations of values, correct ones and others.
func TestP17_1Values(t *testing.T) {
	errors := map[api.Errno]int{}
	for _, target := range []api.Id{{}, {1}, {31: 255}} {
		errors[checkCommand(t, control.Command{Kind: control.Cancel, Target: target})]++
		for _, group := range groups {
			errors[checkCommand(t, control.Command{Kind: control.Approve, Target: target, Group: group})]++
		}
	}
	numbers := []int{-1 << 63, -1, 0, 1, 2, 10, 999, 1000, 1001, 999999, 1000000, 1000001, 10000000, 1<<63 - 1}
	for _, number := range numbers {
		for height := -1; height < 11; height++ {
			errors[checkCommand(t, control.Command{Kind: control.Rekey, Number: number, Public: signer.Public{Height: height, Root: [16]byte{1, 15: byte(height)}}})]++
		}
		for _, group := range groups {
			errors[checkCommand(t, control.Command{Kind: control.Remove, Group: group, Version: number})]++
			for _, text := range texts {
				for _, l := range lists() {
					c := control.Command{Kind: control.Define, Group: group, Version: number, Moderators: l, Text: text}
					errors[checkCommand(t, c)]++
					c.Moderated = true
					errors[checkCommand(t, c)]++
				}
			}
		}
	}
	for _, e := range []api.Errno{api.OK, api.ErrFormat, api.ErrArgument, api.ErrName, api.ErrRange, api.ErrLimit, api.ErrSequence, api.ErrLong, api.ErrByte} {
		if errors[e] < 5 {
			t.Errorf("the errors are %v", errors)
		}
	}
}

// Names of groups and texts of definitions, correct ones and others.
var (
	groups = []string{"rec.boats", "a", "", "Rec", "rec..boats", "rec boats", "a.b.c.d.e.f.g.h.i.j", "a.b.c.d.e.f.g.h.i.j.k", strings.Repeat("a", 20) + ".bb", strings.Repeat("a", 21), strings.Repeat("abcdefg.", 9) + "abcdefgh", strings.Repeat("abcdefg.", 9) + "abcdefghi"}
	texts  = []string{"", "Sailing", "a  b, c!", " a", "a ", " ", "a\tb", "\x7f", "a\x1f", "\xc3\xa9", "\xff ", strings.Repeat("~", 200), strings.Repeat("x", 201), strings.Repeat("\n", 201), " " + strings.Repeat("x", 199), strings.Repeat("\x00", 200)}
)

// lists returns lists of moderators, correct ones and others.
func lists() [][]api.Author {
	l := authors(4)
	return [][]api.Author{nil, {}, l[:1], {{}}, l, authors(8), authors(9), slices.Repeat(l[:1], 2), {l[0], l[1], l[1]}, {l[1], l[0]}, {l[0], l[2], l[1]}, {{15: 1}, {}}, {{1}, {0, 2}}, {{15: 127}, {15: 128}}, {{15: 128}, {15: 127}}, slices.Repeat(l[:1], 8), slices.Repeat(l[:1], 9)}
}

func TestP17_1Order(t *testing.T) {
	wants := func(c control.Command, want api.Errno) {
		t.Helper()
		if e := checkCommand(t, c); e != want {
			t.Errorf("Check of %.200v: %d, want %d", c, e, want)
		}
	}
	long := strings.Repeat("\n", 201)
	wants(control.Command{}, api.ErrKind)
	wants(control.Command{Kind: 6, Group: "G"}, api.ErrKind)
	wants(control.Command{Kind: control.Cancel, Group: "G"}, api.ErrFormat)
	wants(control.Command{Kind: control.Rekey, Text: long, Number: 5000}, api.ErrFormat)
	wants(control.Command{Kind: control.Approve, Group: "G"}, api.ErrArgument)
	wants(control.Command{Kind: control.Approve, Target: api.Id{1}, Group: "G"}, api.ErrName)
	wants(control.Command{Kind: control.Remove, Group: "G", Version: -1}, api.ErrName)
	wants(control.Command{Kind: control.Define, Group: "G", Version: -1, Moderated: true, Text: long}, api.ErrName)
	wants(control.Command{Kind: control.Define, Group: "g", Version: -1, Moderated: true, Text: long}, api.ErrRange)
	wants(control.Command{Kind: control.Define, Group: "g", Moderated: true, Text: long}, api.ErrArgument)
	wants(control.Command{Kind: control.Define, Group: "g", Moderated: true, Moderators: make([]api.Author, 9), Text: long}, api.ErrLimit)
	wants(control.Command{Kind: control.Define, Group: "g", Moderated: true, Moderators: make([]api.Author, 8), Text: long}, api.ErrSequence)
	wants(control.Command{Kind: control.Define, Group: "g", Moderators: make([]api.Author, 9), Text: long}, api.ErrFormat)
	wants(control.Command{Kind: control.Define, Group: "g", Version: 1000001, Moderators: authors(1)}, api.ErrRange)
	wants(control.Command{Kind: control.Define, Group: "g", Text: long + " "}, api.ErrLong)
	wants(control.Command{Kind: control.Define, Group: "g", Text: " \n"}, api.ErrByte)
	wants(control.Command{Kind: control.Define, Group: "g", Text: "a "}, api.ErrFormat)
	wants(control.Command{Kind: control.Define, Group: "g", Moderators: []api.Author{}}, api.OK)
	wants(control.Command{Kind: control.Rekey, Number: 1001, Public: signer.Public{Height: 9}}, api.ErrRange)
	wants(control.Command{Kind: control.Rekey, Number: 1000, Public: signer.Public{Height: 9}}, api.ErrRange)
	wants(control.Command{Kind: control.Rekey, Number: 1000, Public: signer.Public{Height: 8}}, api.OK)
}

// TestP17_1TextBytes has every byte at every place of a text.
func TestP17_1TextBytes(t *testing.T) {
	for place := range 4 {
		for c := range 256 {
			text := []byte("abcd")
			text[place] = byte(c)
			want := api.OK
			switch {
			case c < 32 || c > 126:
				want = api.ErrByte
			case c == ' ' && (place == 0 || place == 3):
				want = api.ErrFormat
			}
			if e := checkCommand(t, control.Command{Kind: control.Define, Group: "g", Text: string(text)}); e != want {
				t.Errorf("Check of the text %q: %d, want %d", text, e, want)
			}
		}
	}
}

func TestP17_2Kinds(t *testing.T) {
	for kind := -300; kind < 300; kind++ {
		if got, want := control.KindName(kind), kinds[kind].name; got != want {
			t.Errorf("KindName(%d) = %q, want %q", kind, got, want)
		}
		if got, want := control.Permanent(kind), kind == 3 || kind == 4 || kind == 5; got != want {
			t.Errorf("Permanent(%d) = %t", kind, got)
		}
	}
	for _, kind := range []int{-1 << 63, 1<<63 - 1, 1<<32 + 3, 1<<8 + 3} {
		if control.KindName(kind) != "" || control.Permanent(kind) {
			t.Errorf("KindName(%d) = %q, and Permanent is %t", kind, control.KindName(kind), control.Permanent(kind))
		}
	}
}

// TestP17_2Equal has all pairs of commands of which each differs from the first one in one field.
func TestP17_2Equal(t *testing.T) {
	all := func() []control.Command {
		l := slices.Repeat([]control.Command{{Kind: 3, Target: api.Id{1}, Group: "a", Version: 1, Moderators: authors(2), Text: "b", Number: 2, Public: signer.Public{Height: 1}}}, 16)
		l[1].Kind = 4
		l[2].Target[31] = 1
		l[3].Group = "A"
		l[4].Version = 2
		l[5].Moderated = true
		l[6].Moderators = authors(1)
		l[7].Moderators = authors(3)
		l[8].Moderators = nil
		l[9].Moderators = []api.Author{authors(2)[1], authors(2)[0]}
		l[10].Moderators = []api.Author{authors(2)[0], {}}
		l[11].Text = "b "
		l[12].Number = 1
		l[13].Public.Height = 2
		l[14].Public.Root[15] = 1
		l[15] = control.Command{}
		return l
	}
	for i, a := range all() {
		for j, b := range all() {
			if got := control.Equal(a, b); got != (i == j) || got != same(a, b) {
				t.Errorf("Equal(%v, %v) = %t", a, b, got)
			}
		}
	}
	if !control.Equal(control.Command{}, control.Command{Moderators: []api.Author{}}) {
		t.Error("no moderators and none are different")
	}
}

// randomCommand returns a command without errors.
func randomCommand(random *rand.Rand) control.Command {
	letters := func(most int, alphabet string) string {
		s := ""
		for range 1 + random.Intn(most) {
			s += alphabet[random.Intn(len(alphabet)):][:1]
		}
		return s
	}
	c := control.Command{Kind: 1 + random.Intn(5)}
	group := "a" + letters(18, "abc019-+_")
	for range random.Intn(9) {
		group += "." + letters(5, "xyz")
	}
	switch c.Kind {
	case control.Define:
		c.Text = strings.Trim(letters(200, "abc ~!>,"), " ")
		c.Moderators = authors(100)[random.Intn(50):][:random.Intn(9)]
		c.Moderated = len(c.Moderators) > 0
		fallthrough
	case control.Remove:
		c.Version = random.Intn(1000001)
	case control.Cancel, control.Approve:
		random.Read(c.Target[:])
	case control.Rekey:
		c.Number = 1 + random.Intn(1000)
		c.Public.Height = 1 + random.Intn(8)
		random.Read(c.Public.Root[:])
	}
	if c.Kind != control.Cancel && c.Kind != control.Rekey {
		c.Group = group
	}
	return c
}

func TestP17_5Random(t *testing.T) {
	random := rand.New(rand.NewSource(175))
	for range 3000 {
		c := randomCommand(random)
		if e := checkCommand(t, c); e != api.OK {
			t.Fatalf("Check of %v: %d", c, e)
		}
	}
}

// TestP17_5Longest has the longest text of each kind.
func TestP17_5Longest(t *testing.T) {
	group := groups[10]
	for _, c := range []control.Command{
		{Kind: control.Approve, Target: api.Id{1}, Group: group},
		{Kind: control.Define, Group: group, Version: 1000000, Moderated: true, Moderators: authors(8), Text: texts[11]},
		{Kind: control.Remove, Group: group, Version: 1000000},
		{Kind: control.Rekey, Number: 1000, Public: signer.Public{Height: 8}},
	} {
		if e := checkCommand(t, c); e != api.OK {
			t.Errorf("Check of %v: %d", c, e)
		}
	}
}
