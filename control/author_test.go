package control_test

import (
	"encoding/hex"
	"math/rand"
	"slices"
	"strings"
	"testing"
	"unsafe"

	"bulletin/api"
	"bulletin/control"
)

// parseAuthor is what ParseAuthor returns by the words of the chapter.
func parseAuthor(s string) (api.Author, int, api.Errno) {
	first := s[:min(len(s), 32)]
	if rest := strings.TrimLeft(first, "0123456789abcdef"); rest != "" {
		return api.Author{}, len(first) - len(rest), api.ErrByte
	}
	if len(s) < 32 {
		return api.Author{}, len(s), api.ErrShort
	}
	if len(s) > 32 {
		return api.Author{}, 32, api.ErrLong
	}
	b, _ := hex.DecodeString(s)
	return api.Author(b), 0, api.OK
}

// checkAuthor compares ParseAuthor with the model.
func checkAuthor(t *testing.T, s string) {
	t.Helper()
	want, wantAt, wanted := parseAuthor(s)
	a, at, e := control.ParseAuthor(s)
	if a != want || at != wantAt || e != wanted {
		t.Fatalf("ParseAuthor(%.100q) = %x, %d, %d, want %x, %d, %d", s, a, at, e, want, wantAt, wanted)
	}
	if e == api.OK && control.AuthorText(a) != s {
		t.Fatalf("AuthorText(%x) = %q, want %q", a, control.AuthorText(a), s)
	}
}

func TestP17_4Random(t *testing.T) {
	random := rand.New(rand.NewSource(174))
	for range 300 {
		a := api.Author{}
		random.Read(a[:])
		s := hex.EncodeToString(a[:])
		if control.AuthorText(a) != s {
			t.Fatalf("AuthorText(%x) = %q", a, control.AuthorText(a))
		}
		checkAuthor(t, s)
		checkAuthor(t, strings.ToUpper(s))
	}
}

// TestP17_4Bytes has every byte at every place, and all values of each byte.
func TestP17_4Bytes(t *testing.T) {
	s := "0123456789abcdef" + "00ffa95e07c13d28"
	for place := range 32 {
		for c := range 256 {
			changed := []byte(s)
			changed[place] = byte(c)
			checkAuthor(t, string(changed))
			checkAuthor(t, string(changed)+"x")
			checkAuthor(t, string(changed[:place+1]))
			a := api.Author{}
			a[place/2] = byte(c)
			if got, want := control.AuthorText(a), hex.EncodeToString(a[:]); got != want {
				t.Fatalf("AuthorText(%x) = %q, want %q", a, got, want)
			}
		}
		checkAuthor(t, s[:place])
		checkAuthor(t, s[place:])
		checkAuthor(t, s+s[:place])
		checkAuthor(t, s+"\x00"+s[:place])
	}
}

func TestP17_4Errors(t *testing.T) {
	zeros := strings.Repeat("0", 32)
	wants := func(s string, wantAt int, want api.Errno) {
		t.Helper()
		checkAuthor(t, s)
		if a, at, e := control.ParseAuthor(s); a != (api.Author{}) || at != wantAt || e != want {
			t.Errorf("ParseAuthor(%.100q) = %x, %d, %d, want %d, %d", s, a, at, e, wantAt, want)
		}
	}
	wants(zeros, 0, api.OK)
	wants("", 0, api.ErrShort)
	wants("0", 1, api.ErrShort)
	wants(zeros[1:], 31, api.ErrShort)
	wants("f"+zeros[1:31], 31, api.ErrShort)
	wants(zeros+"0", 32, api.ErrLong)
	wants(zeros+"g", 32, api.ErrLong)
	wants("0g", 1, api.ErrByte) // a wrong byte comes before a missing one
	wants(zeros[1:]+"G0", 31, api.ErrByte)
	wants("f"+zeros[2:]+"A", 31, api.ErrByte)
	wants("0x"+zeros, 1, api.ErrByte)
	wants(strings.Repeat("f", 1<<20), 32, api.ErrLong)
}

// volatile returns a text, and a function that overwrites it.
func volatile(s string) (string, func()) {
	b := []byte(s)
	return unsafe.String(&b[0], len(b)), func() { clear(b) }
}

// TestP17_5Retained checks that results keep no memory of the arguments, and that arguments are not modified.
func TestP17_5Retained(t *testing.T) {
	s, overwrite := volatile("define rec.boats 2 moderated " + strings.Repeat("0", 32) + " Sailing")
	c, _, e := control.Parse(s)
	overwrite()
	want := control.Command{Kind: control.Define, Group: "rec.boats", Version: 2, Moderated: true, Moderators: []api.Author{{}}, Text: "Sailing"}
	if e != api.OK || !same(c, want) {
		t.Errorf("the command is now %v, %d", c, e)
	}
	text, _ := control.Print(c)
	if c.Check() != api.OK || !control.Equal(c, c) || !same(c, want) {
		t.Errorf("the command is now %v", c)
	}
	l := slices.Clone(c.Moderators)
	c.Moderators[0] = api.Author{1}
	if text != "define rec.boats 2 moderated "+strings.Repeat("0", 32)+" Sailing" || l[0] != (api.Author{}) {
		t.Errorf("the text is now %q", text)
	}
	for _, line := range []string{"approve " + identifier(api.Id{1}) + " rec.boats", "remove rec.boats 1"} {
		s, overwrite := volatile(line)
		c, _, _ := control.Parse(s)
		overwrite()
		if c.Group != "rec.boats" {
			t.Errorf("the group of %q is now %q", line, c.Group)
		}
	}
}
