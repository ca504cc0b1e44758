package msgid_test

import (
	"encoding/hex"
	"math/rand"
	"slices"
	"strings"
	"testing"
	"unsafe"

	"bulletin/api"
	"bulletin/msgid"
)

// These files have the terms of the chapter once more, over the standard library's hexadecimal digits.

const hexDigits = "0123456789abcdef"

// text is the message identifier of an identity.
func text(id api.Id) string { return "<" + hex.EncodeToString(id[:]) + "@hash>" }

// identity is the identity with some digits at the beginning, and zeros behind them.
func identity(digits string) api.Id {
	b, err := hex.DecodeString(digits + strings.Repeat("0", 64-len(digits)))
	if err != nil {
		panic(err)
	}
	return api.Id(b)
}

// someIds returns n identities that look like digests.
func someIds(n int, seed int64) []api.Id {
	random := rand.New(rand.NewSource(seed))
	l := make([]api.Id, n)
	for i := range l {
		random.Read(l[i][:])
	}
	return l
}

// closeIds are identities that differ in single digits, in ascending order.
func closeIds() []api.Id {
	l := []api.Id{{}}
	for _, digits := range []string{"00000000000000000000000000000001", "00000000000000000000000000000080", "0000f", "00010", "0001f", "00080", "0008000000ff", "7fff", "8", "80000001", "800001", "ffff"} {
		l = append(l, identity(digits))
	}
	last := api.Id{}
	for i := range last {
		last[i] = 255
	}
	return append(l, last)
}

// parse is what Parse returns by the words of the chapter.
func parse(s string) (api.Id, int, api.Errno) {
	for at := range min(len(s), 71) {
		here := hexDigits // what a message identifier has here
		switch {
		case at == 0:
			here = "<"
		case at > 64:
			here = "@hash>"[at-65 : at-64]
		}
		if strings.IndexByte(here, s[at]) < 0 {
			return api.Id{}, at, api.ErrByte
		}
	}
	if len(s) < 71 {
		return api.Id{}, len(s), api.ErrShort
	}
	if len(s) > 71 {
		return api.Id{}, 71, api.ErrLong
	}
	return identity(s[1:65]), 0, api.OK
}

// checkParse compares Parse with the model.
func checkParse(t *testing.T, s string) api.Errno {
	t.Helper()
	want, wantAt, wanted := parse(s)
	if id, at, e := msgid.Parse(s); id != want || at != wantAt || e != wanted {
		t.Fatalf("Parse(%.100q) = %x, %d, %d, want %x, %d, %d", s, id, at, e, want, wantAt, wanted)
	}
	return wanted
}

func TestP11_1Print(t *testing.T) {
	if msgid.Length != 71 {
		t.Errorf("Length = %d", msgid.Length)
	}
	for _, id := range append(closeIds(), someIds(100, 111)...) {
		if s := msgid.Print(id); s != text(id) || len(s) != msgid.Length {
			t.Errorf("Print(%x) = %q", id, s)
		}
	}
}

// TestP11_1Digits has every byte at every place of an identity.
func TestP11_1Digits(t *testing.T) {
	for place := range 32 {
		for c := range 256 {
			id := api.Id{}
			id[place] = byte(c)
			want := strings.Repeat("00", place) + hexDigits[c>>4:c>>4+1] + hexDigits[c&15:c&15+1] + strings.Repeat("00", 31-place)
			if s := msgid.Print(id); s != "<"+want+"@hash>" {
				t.Fatalf("Print(%x) = %q", id, s)
			}
			if got, at, e := msgid.Parse("<" + want + "@hash>"); got != id || at != 0 || e != api.OK {
				t.Fatalf("Parse of the digits %s = %x, %d, %d", want, got, at, e)
			}
		}
	}
}

// TestP11_1Bytes has every byte at every place of a text, also as its last byte and before another error.
func TestP11_1Bytes(t *testing.T) {
	valid := text(someIds(1, 112)[0])
	for place := range len(valid) {
		for c := range 256 {
			changed := []byte(valid)
			changed[place] = byte(c)
			s := string(changed)
			checkParse(t, s)
			checkParse(t, s[:place+1])
			checkParse(t, s[:place+1]+"\x00")
			checkParse(t, s+"\x00")
		}
	}
}

func TestP11_1Lengths(t *testing.T) {
	valid := text(identity("0123456789abcdef"))
	for n := range len(valid) {
		if id, at, e := msgid.Parse(valid[:n]); !msgid.IsZero(id) || at != n || e != api.ErrShort {
			t.Errorf("Parse of %d bytes = %x, %d, %d", n, id, at, e)
		}
	}
	for _, more := range []string{" ", ">", "\n", "\x00", valid, strings.Repeat("x", 100000)} {
		if id, at, e := msgid.Parse(valid + more); !msgid.IsZero(id) || at != 71 || e != api.ErrLong {
			t.Errorf("Parse of a text followed by %.20q = %x, %d, %d", more, id, at, e)
		}
	}
	if id, at, e := msgid.Parse(strings.Repeat("<", 100000)); !msgid.IsZero(id) || at != 1 || e != api.ErrByte {
		t.Errorf("Parse of a long text = %x, %d, %d", id, at, e)
	}
}

// TestP11_1Random has texts with up to two wrong places and any length.
func TestP11_1Random(t *testing.T) {
	const wrong = "<>@hash0129afgAFG/:`. \x00\xff"
	random := rand.New(rand.NewSource(113))
	errors := map[api.Errno]int{}
	for range 20000 {
		s := []byte(text(someIds(1, random.Int63())[0]))
		for range random.Intn(3) {
			s[random.Intn(len(s))] = wrong[random.Intn(len(wrong))]
		}
		if random.Intn(3) == 0 {
			s = s[:random.Intn(len(s)+1)]
		} else if random.Intn(3) == 0 {
			s = append(s, '>')
		}
		errors[checkParse(t, string(s))]++
	}
	for _, e := range []api.Errno{api.OK, api.ErrByte, api.ErrShort, api.ErrLong} {
		if errors[e] < 500 {
			t.Errorf("the errors are %v", errors)
		}
	}
}

// TestP11_1Examples has the examples of the chapter and the one of DOC.md.
func TestP11_1Examples(t *testing.T) {
	zeros := strings.Repeat("0", 64)
	if s := msgid.Print(api.Id{}); s != "<"+zeros+"@hash>" {
		t.Errorf("Print of the zero identity = %q", s)
	}
	if s := msgid.Print(api.Id{171}); s != "<ab"+zeros[:62]+"@hash>" {
		t.Errorf("Print of an identity = %q", s)
	}
	check := func(s string, where int, want api.Errno) {
		t.Helper()
		if id, at, e := msgid.Parse(s); !msgid.IsZero(id) || at != where || e != want {
			t.Errorf("Parse(%q) = %x, %d, %d", s, id, at, e)
		}
	}
	check("<"+zeros+"@hash>", 0, api.OK)
	check("<12", 3, api.ErrShort)
	check("<1G", 2, api.ErrByte)
	check("", 0, api.ErrShort)
}

func TestP11_2Compare(t *testing.T) {
	l := closeIds()
	for i, a := range l {
		for j, b := range l {
			want := 0
			if i < j {
				want = -1
			} else if i > j {
				want = 1
			}
			if got := msgid.Compare(a, b); got != want {
				t.Errorf("Compare(%x, %x) = %d, want %d", a, b, got, want)
			}
		}
	}
}

// TestP11_2Bytes compares identities that differ in one byte, or in a second one that does not matter.
func TestP11_2Bytes(t *testing.T) {
	for place := range 32 {
		for _, pair := range [][2]byte{{0, 1}, {0, 255}, {127, 128}, {1, 128}, {254, 255}} {
			a, b := someIds(1, 114)[0], someIds(1, 114)[0]
			a[place], b[place] = pair[0], pair[1]
			if msgid.Compare(a, b) != -1 || msgid.Compare(b, a) != 1 || msgid.Compare(a, a) != 0 {
				t.Errorf("the byte %d: %d does not precede %d", place, pair[0], pair[1])
			}
			if place < 31 {
				a[31], b[31] = 255, 0
				if msgid.Compare(a, b) != -1 || msgid.Compare(b, a) != 1 {
					t.Errorf("the bytes %d and 31: %d does not precede %d", place, pair[0], pair[1])
				}
			}
		}
	}
}

func TestP11_2IsZero(t *testing.T) {
	if !msgid.IsZero(api.Id{}) {
		t.Error("the zero identity is not zero")
	}
	for place := range 32 {
		for bit := range 8 {
			id := api.Id{}
			id[place] = 1 << bit
			if msgid.IsZero(id) {
				t.Errorf("%x is zero", id)
			}
		}
	}
}

func TestP11_7Inverse(t *testing.T) {
	for _, id := range append(closeIds(), someIds(1000, 117)...) {
		got, at, e := msgid.Parse(msgid.Print(id))
		if got != id || at != 0 || e != api.OK {
			t.Errorf("Parse of Print of %x = %x, %d, %d", id, got, at, e)
		}
	}
	digits := "<" + strings.Repeat("0123456789abcdef", 4) + "@hash>"
	for _, s := range []string{digits, strings.ToUpper(digits), " " + digits, digits + " ", digits[:70], digits[1:]} {
		if id, _, e := msgid.Parse(s); e == api.OK && msgid.Print(id) != s {
			t.Errorf("Print of Parse of %q = %q", s, msgid.Print(id))
		}
	}
}

// TestP11_7Order checks that identities have the order of their message identifiers.
func TestP11_7Order(t *testing.T) {
	l := append(closeIds(), someIds(100, 118)...)
	for _, a := range l {
		for _, b := range l {
			if got, want := msgid.Compare(a, b), strings.Compare(msgid.Print(a), msgid.Print(b)); got != want {
				t.Errorf("Compare(%x, %x) = %d, but that of their texts is %d", a, b, got, want)
			}
		}
	}
}

// TestP11_7Arguments checks that lists are not modified, nor what follows them in memory.
func TestP11_7Arguments(t *testing.T) {
	fresh := func() []api.Id { // neither in order nor without repetitions
		l := someIds(6, 119)
		return slices.Concat(l, l, closeIds())
	}
	whole := fresh()
	a, b := whole[:8], whole[10:15]
	msgid.Set(a)
	msgid.Has(a, b[0])
	msgid.Union(a, b)
	msgid.Minus(a, b)
	msgid.Both(a, b)
	msgid.Resolve(text(a[0])[1:9], a)
	msgid.Shorten(a[0], a)
	if !slices.Equal(whole, fresh()) {
		t.Error("an argument was changed")
	}
}

// overlap reports whether two lists share memory, also behind their ends.
func overlap(a, b []api.Id) bool {
	if cap(a) == 0 || cap(b) == 0 {
		return false
	}
	from, to := uintptr(unsafe.Pointer(&a[:1][0])), uintptr(unsafe.Pointer(&b[:1][0]))
	return from < to+uintptr(cap(b))*32 && to < from+uintptr(cap(a))*32
}

// TestP11_7Results checks that results share no memory with arguments.
func TestP11_7Results(t *testing.T) {
	sets := [][]api.Id{nil, closeIds()[:4], closeIds()[2:9], closeIds()[:1], closeIds()}
	for i, a := range sets {
		if overlap(msgid.Set(a), a) {
			t.Errorf("Set of the set %d shares its memory", i)
		}
		for j, b := range sets {
			for name, got := range map[string][]api.Id{"Union": msgid.Union(a, b), "Minus": msgid.Minus(a, b), "Both": msgid.Both(a, b)} {
				if overlap(got, a) || overlap(got, b) {
					t.Errorf("%s of the sets %d and %d shares their memory", name, i, j)
				}
			}
		}
	}
}
