package control_test

import (
	"encoding/base64"
	"encoding/hex"
	"math/rand"
	"regexp"
	"slices"
	"strconv"
	"strings"
	"testing"

	"bulletin/api"
	"bulletin/control"
	"bulletin/signer"
)

// identifier is the message identifier of an identity.
func identifier(id api.Id) string { return "<" + hex.EncodeToString(id[:]) + "@hash>" }

// text is the text of a command without errors.
func text(c control.Command) string {
	var list []string
	for _, a := range c.Moderators {
		list = append(list, hex.EncodeToString(a[:]))
	}
	mode := "open"
	if c.Moderated {
		mode = "moderated " + strings.Join(list, ",")
	}
	public := base64.StdEncoding.EncodeToString(append([]byte{byte(c.Public.Height)}, c.Public.Root[:]...))
	target, version := identifier(c.Target), strconv.Itoa(c.Version)
	switch c.Kind {
	case control.Cancel:
		return "cancel " + target
	case control.Approve:
		return "approve " + target + " " + c.Group
	case control.Define:
		return strings.TrimSuffix("define "+c.Group+" "+version+" "+mode+" "+c.Text, " ")
	case control.Remove:
		return "remove " + c.Group + " " + version
	case control.Rekey:
		return "rekey " + strconv.Itoa(c.Number) + " " + public
	}
	return ""
}

var (
	targetForm = regexp.MustCompile(`^<([0-9a-f]{64})@hash>$`)
	numberForm = regexp.MustCompile(`^(0|[1-9][0-9]{0,6})$`)
	authorForm = regexp.MustCompile(`^[0-9a-f]{32}$`)
	modeForm   = regexp.MustCompile(`^(open|moderated)$`)
)

// readAuthors reads the list of moderators in a definition.
func readAuthors(word string) ([]api.Author, api.Errno) {
	var l []api.Author
	for _, part := range strings.Split(word, ",") {
		if !authorForm.MatchString(part) {
			return nil, api.ErrFormat
		}
		b, _ := hex.DecodeString(part)
		l = append(l, api.Author(b))
	}
	return l, sequenceError(l)
}

// readWord reads a word of some form into a command. The forms are those of kind; L is that of a list of moderators.
func readWord(c *control.Command, form byte, word string) (e api.Errno) {
	forms := map[byte]*regexp.Regexp{'T': targetForm, 'V': numberForm, 'N': numberForm, 'M': modeForm}
	if form == 'G' && !isGroup(word) {
		return api.ErrName
	}
	if pattern := forms[form]; pattern != nil && !pattern.MatchString(word) {
		return api.ErrFormat
	}
	number, _ := strconv.Atoi(word)
	switch form {
	case 'T':
		b, _ := hex.DecodeString(targetForm.FindStringSubmatch(word)[1])
		c.Target = api.Id(b)
		if c.Target == (api.Id{}) {
			return api.ErrArgument
		}
	case 'G':
		c.Group = word
	case 'V':
		c.Version = number
		if number > 1000000 {
			return api.ErrRange
		}
	case 'N':
		c.Number = number
		if number == 0 || number > 1000 {
			return api.ErrRange
		}
	case 'M':
		c.Moderated = word == "moderated"
	case 'L':
		c.Moderators, e = readAuthors(word)
	case 'P':
		c.Public, e = signer.ParsePublic(word)
	}
	return e
}

// parse is what Parse returns by the words of the chapter.
func parse(s string) (control.Command, int, api.Errno) {
	if len(s) > 1000 {
		return control.Command{}, 0, api.ErrLong
	}
	words := strings.Split(s, " ")
	c := control.Command{}
	for number, k := range kinds {
		if k.name == words[0] {
			c.Kind = number
		}
	}
	if c.Kind == 0 {
		return control.Command{}, 0, api.ErrKind
	}
	forms := kinds[c.Kind].fields
	at := len(words[0]) + 1
	for words = words[1:]; forms != ""; words = words[1:] {
		if len(words) == 0 {
			return control.Command{}, len(s), api.ErrShort
		}
		if e := readWord(&c, forms[0], words[0]); e != api.OK {
			return control.Command{}, at, e
		}
		at += len(words[0]) + 1
		forms = forms[1:]
		if words[0] == "moderated" && c.Moderated && c.Moderators == nil {
			forms = "L"
		}
	}
	switch {
	case len(words) == 0:
		return c, 0, api.OK
	case c.Kind != control.Define:
		return control.Command{}, at - 1, api.ErrLong
	}
	c.Text = s[at:]
	e := textError(c.Text)
	if c.Text == "" {
		e = api.ErrShort
	}
	if e != api.OK {
		return control.Command{}, at, e
	}
	return c, 0, api.OK
}

// checkParse compares Parse with the model, and prints the command again.
func checkParse(t *testing.T, s string) api.Errno {
	t.Helper()
	want, wantAt, wanted := parse(s)
	c, at, e := control.Parse(s)
	if !same(c, want) || at != wantAt || e != wanted {
		t.Fatalf("Parse(%.300q) = %v, %d, %d, want %v, %d, %d", s, c, at, e, want, wantAt, wanted)
	}
	if e == api.OK {
		if printed, e := control.Print(c); printed != s || e != api.OK || c.Check() != api.OK {
			t.Fatalf("Print of the command of %q = %q, %d, and Check %d", s, printed, e, c.Check())
		}
	}
	return e
}

// samples are texts of all kinds.
func samples() []string {
	id := api.Id{18, 31: 171}
	var l []string
	for _, c := range []control.Command{
		{Kind: control.Cancel, Target: id},
		{Kind: control.Approve, Target: id, Group: "rec.boats"},
		{Kind: control.Define, Group: "rec.boats", Version: 2, Text: "Sailing"},
		{Kind: control.Define, Group: "a", Version: 1000000},
		{Kind: control.Define, Group: "a-b", Version: 10, Moderated: true, Moderators: authors(1)},
		{Kind: control.Define, Group: "a", Moderated: true, Moderators: authors(3), Text: "x  y z"},
		{Kind: control.Remove, Group: "rec.boats", Version: 120},
		{Kind: control.Rekey, Number: 3, Public: signer.Public{Height: 4, Root: [16]byte{5, 15: 250}}},
		{Kind: control.Rekey, Number: 1000, Public: signer.Public{Height: 8}},
	} {
		l = append(l, text(c))
	}
	return l
}

// TestP17_3Bytes has every byte at every place of texts of all kinds, and texts with a byte more or less.
func TestP17_3Bytes(t *testing.T) {
	errors := map[api.Errno]int{}
	for _, s := range samples() {
		if e := checkParse(t, s); e != api.OK {
			t.Errorf("Parse(%q): %d", s, e)
		}
		for place := range len(s) {
			for c := range 256 {
				changed := []byte(s)
				changed[place] = byte(c)
				errors[checkParse(t, string(changed))]++
				errors[checkParse(t, s[:place]+string(changed[place:place+1])+s[place:])]++
			}
			errors[checkParse(t, s[:place])]++
			errors[checkParse(t, s[:place]+" ")]++
			errors[checkParse(t, s[place:])]++
			errors[checkParse(t, s[:place]+s[place+1:])]++
			errors[checkParse(t, s[:place]+s)]++
		}
	}
	for _, e := range []api.Errno{api.OK, api.ErrKind, api.ErrShort, api.ErrFormat, api.ErrName, api.ErrRange, api.ErrSequence, api.ErrByte, api.ErrLong} {
		if errors[e] < 3 {
			t.Errorf("the errors are %v", errors)
		}
	}
}

// TestP17_3Words has texts of all combinations of words, correct ones and others.
func TestP17_3Words(t *testing.T) {
	a, b := hex.EncodeToString(make([]byte, 16)), hex.EncodeToString([]byte("0123456789abcdef"))
	words := []string{
		"", "cancel", "approve", "define", "remove", "rekey", "Cancel", identifier(api.Id{171}), identifier(api.Id{}), "<12@hash>", "rec.boats", "Rec", "0", "1", "01", "1000", "1000001", "-1", "12345678",
		"open", "moderated", a, a + "," + b, b + "," + a, a + ",", "BAAAAAAAAAAAAAAAAAAAAAA=", "CQAAAAAAAAAAAAAAAAAAAAA=", "AAAA", "x",
	}
	errors := map[api.Errno]int{}
	var all func(s string, most int)
	all = func(s string, most int) {
		errors[checkParse(t, s)]++
		for _, word := range words {
			if most > 0 {
				all(s+" "+word, most-1)
			}
		}
	}
	for _, word := range words {
		all(word, 3)
	}
	for _, s := range []string{"define a 1", "define rec.boats 0 moderated", "define a 1 moderated " + a, "define a 1 open"} {
		all(s, 3)
	}
	for _, e := range []api.Errno{api.OK, api.ErrKind, api.ErrShort, api.ErrFormat, api.ErrArgument, api.ErrName, api.ErrRange, api.ErrSequence, api.ErrLong} {
		if errors[e] < 20 {
			t.Errorf("the errors are %v", errors)
		}
	}
}

// TestP17_3Values has texts with all values of the tests of Check.
func TestP17_3Values(t *testing.T) {
	for _, group := range groups {
		checkParse(t, "remove "+group+" 1")
		checkParse(t, "approve "+identifier(api.Id{1})+" "+group)
		checkParse(t, "define "+group+" 1 open")
	}
	for n := range 2000 {
		checkParse(t, "rekey "+strconv.Itoa(n)+" BAAAAAAAAAAAAAAAAAAAAAA=")
		checkParse(t, "remove a "+strconv.Itoa(n+999000))
	}
	for _, number := range []string{"", "+1", "-0", "1_0", "0x1", "1e3", "00", "000000", "0000000", "00000000", "0000001", "9999999", "10000000", "99999999999999999999", "9223372036854775807", " 1", "1.", "\xd9\xa1"} {
		checkParse(t, "remove a "+number)
		checkParse(t, "define a "+number+" open")
		checkParse(t, "rekey "+number+" BAAAAAAAAAAAAAAAAAAAAAA=")
	}
	for _, definition := range texts {
		checkParse(t, "define a 1 open "+definition)
		checkParse(t, "define a 1 moderated "+strings.Repeat("0", 32)+" "+definition)
	}
	for _, l := range lists() {
		var parts []string
		for _, author := range l {
			parts = append(parts, hex.EncodeToString(author[:]))
		}
		list := strings.Join(parts, ",")
		checkParse(t, "define a 1 moderated "+list)
		checkParse(t, "define a 1 moderated "+list+" x")
		checkParse(t, "define a 1 moderated "+list+",x")
		checkParse(t, "define a 1 moderated "+strings.ToUpper(list))
	}
}

func TestP17_3Errors(t *testing.T) {
	a, b := strings.Repeat("0", 32), "01"+strings.Repeat("0", 30)
	id, zero := identifier(api.Id{171}), identifier(api.Id{})
	public := "BAAAAAAAAAAAAAAAAAAAAAA="
	var nine []string
	for _, author := range authors(9) {
		nine = append(nine, hex.EncodeToString(author[:]))
	}
	list := strings.Join(nine, ",")
	wants := func(s string, wantAt int, want api.Errno) {
		t.Helper()
		checkParse(t, s)
		if c, at, e := control.Parse(s); at != wantAt || e != want || want != api.OK && !same(c, control.Command{}) {
			t.Errorf("Parse(%.100q) = %v, %d, %d, want %d, %d", s, c, at, e, wantAt, want)
		}
	}
	wants("", 0, api.ErrKind)
	wants(" ", 0, api.ErrKind)
	wants(" cancel", 0, api.ErrKind)
	wants("cancel\t"+id, 0, api.ErrKind)
	wants("CANCEL "+id, 0, api.ErrKind)
	wants("cancel", 6, api.ErrShort)
	wants("cancel ", 7, api.ErrFormat) // a space is followed by a word
	wants("cancel x", 7, api.ErrFormat)
	wants("cancel  "+id, 7, api.ErrFormat)
	wants("cancel "+zero, 7, api.ErrArgument)
	wants("cancel "+zero+" x", 7, api.ErrArgument)
	wants("cancel "+id, 0, api.OK)
	wants("cancel "+id+" ", 78, api.ErrLong)
	wants("cancel "+id+" x", 78, api.ErrLong)
	wants("approve "+id, 79, api.ErrShort)
	wants("approve "+id+" ", 80, api.ErrName)
	wants("approve "+zero+" ", 8, api.ErrArgument)
	wants("approve "+id+" a b", 81, api.ErrLong)
	wants("define", 6, api.ErrShort)
	wants("define a", 8, api.ErrShort)
	wants("define a ", 9, api.ErrFormat)
	wants("define a 1", 10, api.ErrShort)
	wants("define a 1 ", 11, api.ErrFormat)
	wants("define a 1 Open", 11, api.ErrFormat)
	wants("define a 1 open", 0, api.OK)
	wants("define a 1 open ", 16, api.ErrShort)
	wants("define a 1 open  ", 16, api.ErrFormat)
	wants("define a 1 open a  b", 0, api.OK)
	wants("define a 1 open a ", 16, api.ErrFormat)
	wants("define a 1 open a\tb ", 16, api.ErrByte)
	wants("define a 1 open "+strings.Repeat(" ", 201), 16, api.ErrLong)
	wants("define a 1 moderated", 20, api.ErrShort)
	wants("define a 1 moderated ", 21, api.ErrFormat)
	wants("define a 1 moderated  x", 21, api.ErrFormat)
	wants("define a 1 moderated "+a, 0, api.OK)
	wants("define a 1 moderated "+a+" ", 54, api.ErrShort)
	wants("define a 1 moderated "+a+" x", 0, api.OK)
	wants("define a 1 moderated "+a+","+b, 0, api.OK)
	wants("define a 1 moderated "+a+","+a, 21, api.ErrSequence)
	wants("define a 1 moderated "+b+","+a, 21, api.ErrSequence)
	wants("define a 1 moderated "+a+", "+b, 21, api.ErrFormat)
	wants("define a 1 moderated "+b+","+a+",x", 21, api.ErrFormat) // kind by kind
	wants("define a 1 moderated "+list[:8*33-1], 0, api.OK)
	wants("define a 1 moderated "+list, 21, api.ErrLimit)
	wants("define a 1 moderated "+list+","+a, 21, api.ErrLimit)
	wants("define a 1 moderated "+list+",", 21, api.ErrFormat)
	wants("define a 1 moderated "+a+" \x00", 54, api.ErrByte)
	wants("remove rec.boats", 16, api.ErrShort)
	wants("remove rec.boats ", 17, api.ErrFormat)
	wants("remove A 01", 7, api.ErrName)
	wants("remove a 1000000", 0, api.OK)
	wants("remove a 1000001", 9, api.ErrRange)
	wants("remove a 10000000", 9, api.ErrFormat)
	wants("remove a 1 ", 10, api.ErrLong)
	wants("rekey 0", 6, api.ErrRange)
	wants("rekey 1001 x", 6, api.ErrRange)
	wants("rekey 1", 7, api.ErrShort)
	wants("rekey 1 ", 8, api.ErrShort)
	wants("rekey 1 AAAA", 8, api.ErrShort)
	wants("rekey 1 A", 8, api.ErrShort)
	wants("rekey 1 A=", 8, api.ErrByte)
	wants("rekey 1 "+public+" x", 32, api.ErrLong)
	wants("rekey 1 CQ"+public[2:], 8, api.ErrRange) // a height of 9
	wants("rekey 1 AA"+public[2:], 8, api.ErrRange)
	wants("rekey 1000 "+public, 0, api.OK)
	wants("define "+strings.Repeat("x", 993), 7, api.ErrName)
	wants("define "+strings.Repeat("x", 994), 0, api.ErrLong)
	wants(strings.Repeat("x", 1001), 0, api.ErrLong)
	wants(strings.Repeat("x", 1000), 0, api.ErrKind)
	wants(strings.Repeat("cancel ", 1<<18), 0, api.ErrLong)
}

// TestP17_2Examples has texts of all kinds.
func TestP17_2Examples(t *testing.T) {
	wants := func(c control.Command, want string) {
		t.Helper()
		if s, e := control.Print(c); s != want || e != api.OK {
			t.Errorf("Print(%v) = %q, %d, want %q", c, s, e, want)
		}
		if d, at, e := control.Parse(want); !same(c, d) || at != 0 || e != api.OK {
			t.Errorf("Parse(%q) = %v, %d, %d, want %v", want, d, at, e, c)
		}
	}
	id := "<ab" + strings.Repeat("0", 62) + "@hash>"
	a, b := strings.Repeat("0", 32), "01"+strings.Repeat("0", 30)
	wants(control.Command{Kind: control.Cancel, Target: api.Id{171}}, "cancel "+id)
	wants(control.Command{Kind: control.Approve, Target: api.Id{171}, Group: "rec.boats"}, "approve "+id+" rec.boats")
	wants(control.Command{Kind: control.Define, Group: "rec.boats", Version: 2, Text: "Sailing"}, "define rec.boats 2 open Sailing") // example 1
	wants(control.Command{Kind: control.Define, Group: "rec.boats"}, "define rec.boats 0 open")
	wants(control.Command{Kind: control.Define, Group: "rec.boats", Text: "open  moderated"}, "define rec.boats 0 open open  moderated")
	wants(control.Command{Kind: control.Define, Group: "rec.boats", Moderated: true, Moderators: []api.Author{{}, {1}}}, "define rec.boats 0 moderated "+a+","+b)
	wants(control.Command{Kind: control.Define, Group: "rec.boats", Moderated: true, Moderators: []api.Author{{1}}, Text: a}, "define rec.boats 0 moderated "+b+" "+a)
	wants(control.Command{Kind: control.Remove, Group: "rec.boats", Version: 1000000}, "remove rec.boats 1000000")
	wants(control.Command{Kind: control.Rekey, Number: 3, Public: signer.Public{Height: 4}}, "rekey 3 BAAAAAAAAAAAAAAAAAAAAAA=")
	if s, e := control.Print(control.Command{Kind: control.Rekey, Number: 3}); s != "" || e != api.ErrRange {
		t.Errorf("Print of a key without height = %q, %d", s, e)
	}
}

// TestP17_5Pieces joins pieces of texts of all kinds.
func TestP17_5Pieces(t *testing.T) {
	random := rand.New(rand.NewSource(1755))
	all := strings.Join(samples(), " ")
	for range 20000 {
		s := samples()[random.Intn(9)]
		for range 1 + random.Intn(2) {
			from, to := random.Intn(len(s)+1), random.Intn(len(s)+1)
			at := random.Intn(len(all) - 40)
			s = s[:min(from, to)] + all[at:][:random.Intn(40)] + s[max(from, to):]
		}
		checkParse(t, s)
	}
	for _, s := range slices.Concat(samples(), texts, groups) {
		checkParse(t, s)
	}
}
