package msgid_test

import (
	"math/rand"
	"slices"
	"strings"
	"testing"

	"bulletin/api"
	"bulletin/msgid"
)

// resolve is what Resolve returns by the words of the chapter.
func resolve(prefix string, l []api.Id) (api.Id, api.Errno) {
	switch {
	case len(prefix) < 4:
		return api.Id{}, api.ErrShort
	case len(prefix) > 64:
		return api.Id{}, api.ErrLong
	case strings.Trim(prefix, hexDigits) != "":
		return api.Id{}, api.ErrByte
	}
	found := map[api.Id]bool{}
	only := api.Id{}
	for _, id := range l {
		if strings.HasPrefix(text(id)[1:65], prefix) {
			found[id] = true
			only = id
		}
	}
	switch len(found) {
	case 0:
		return api.Id{}, api.ErrNotFound
	case 1:
		return only, api.OK
	}
	return api.Id{}, api.ErrDuplicate
}

// checkResolve compares Resolve with the model.
func checkResolve(t *testing.T, prefix string, l []api.Id) api.Errno {
	t.Helper()
	want, wanted := resolve(prefix, l)
	if id, e := msgid.Resolve(prefix, l); id != want || e != wanted {
		t.Fatalf("Resolve(%.80q, %x) = %x, %d, want %x, %d", prefix, l, id, e, want, wanted)
	}
	return wanted
}

// TestP11_4Prefixes has all beginnings of identities, and some that lead beside them.
func TestP11_4Prefixes(t *testing.T) {
	l := closeIds()
	for _, list := range [][]api.Id{nil, l, l[:1], l[1:], l[3:6], slices.Concat(l[8:], l[:8]), slices.Concat(l, l)} {
		for _, id := range l {
			digits := text(id)[1:65]
			for n := range 65 {
				checkResolve(t, digits[:n], list)
				if n > 0 {
					checkResolve(t, digits[:n-1]+"7", list)
				}
			}
		}
	}
}

func TestP11_4Repeated(t *testing.T) {
	a, b := identity("12345"), identity("12346")
	check := func(prefix string, want api.Id, wanted api.Errno, l ...api.Id) {
		t.Helper()
		if id, e := msgid.Resolve(prefix, l); id != want || e != wanted {
			t.Errorf("Resolve(%q) = %x, %d", prefix, id, e)
		}
	}
	check("1234", a, api.OK, a, a, a)
	check("12345", a, api.OK, a, b, a)
	check("12346", b, api.OK, a, b, a)
	check("1234", api.Id{}, api.ErrDuplicate, a, b, a)
	check("1234", api.Id{}, api.ErrDuplicate, a, a, b)
	check("12347", api.Id{}, api.ErrNotFound, a, b, a)
	check("0000", api.Id{}, api.OK, a, api.Id{}, b)
	check("0000", api.Id{}, api.ErrNotFound, a, b)
	check("1234", api.Id{}, api.ErrNotFound)
	check("", api.Id{}, api.ErrShort, a)
}

// TestP11_4Errors has prefixes to which several errors apply.
func TestP11_4Errors(t *testing.T) {
	l := closeIds()
	for _, list := range [][]api.Id{nil, l, l[:1]} {
		for n := range 67 {
			for _, c := range []string{"0", "f", "g", "A", "F", "/", ":", "`", "<", " ", "\x00", "\xff"} {
				checkResolve(t, strings.Repeat(c, n), list)
				if n > 0 {
					checkResolve(t, strings.Repeat("0", n-1)+c, list)
					checkResolve(t, c+strings.Repeat("0", n-1), list)
				}
			}
		}
	}
	if e := checkResolve(t, strings.Repeat("x", 100000), l); e != api.ErrLong {
		t.Errorf("Resolve of a long prefix: %d", e)
	}
}

// TestP11_4Bytes has every byte in a prefix.
func TestP11_4Bytes(t *testing.T) {
	for c := range 256 {
		for place := range 5 {
			prefix := []byte("12345")
			prefix[place] = byte(c)
			checkResolve(t, string(prefix), []api.Id{identity("12345")})
		}
	}
}

// shorten is what Shorten returns by the words of the chapter.
func shorten(id api.Id, l []api.Id) (string, api.Errno) {
	if !slices.Contains(l, id) {
		return "", api.ErrNotFound
	}
	digits := text(id)[1:65]
	n := 4
	for {
		if got, e := resolve(digits[:n], l); got == id && e == api.OK {
			return digits[:n], api.OK
		}
		n++
	}
}

// checkShorten compares Shorten with the model.
func checkShorten(t *testing.T, id api.Id, l []api.Id) string {
	t.Helper()
	want, wanted := shorten(id, l)
	if s, e := msgid.Shorten(id, l); s != want || e != wanted {
		t.Fatalf("Shorten(%x, %x) = %q, %d, want %q, %d", id, l, s, e, want, wanted)
	}
	return want
}

func TestP11_5Shorten(t *testing.T) {
	l := closeIds()
	for _, list := range [][]api.Id{nil, {}, l, l[:2], l[3:5], l[7:], slices.Concat(l, l), slices.Concat(l[8:], l[:8])} {
		for _, id := range append(closeIds(), someIds(3, 115)...) {
			checkShorten(t, id, list)
		}
	}
}

// TestP11_5Digits has two identities that differ first in a certain digit, with others around them.
func TestP11_5Digits(t *testing.T) {
	for place := range 64 {
		digits := []byte(strings.Repeat("5", 64))
		digits[place] = '6'
		a, b := identity(strings.Repeat("5", 64)), identity(string(digits))
		for _, list := range [][]api.Id{{a, b}, {b, a}, {b, b, a, a}, {identity("5"), b, a, identity("5554")}} {
			s := checkShorten(t, a, list)
			if len(list) == 2 && len(s) != max(4, place+1) {
				t.Errorf("the place %d: %q", place, s)
			}
			checkShorten(t, b, list)
		}
	}
}

func TestP11_5Values(t *testing.T) {
	a, b := identity("12345"), identity("12346")
	check := func(id api.Id, want string, wanted api.Errno, l ...api.Id) {
		t.Helper()
		if s, e := msgid.Shorten(id, l); s != want || e != wanted {
			t.Errorf("Shorten(%x) = %q, %d", id, s, e)
		}
	}
	check(a, "1234", api.OK, a)
	check(a, "1234", api.OK, a, a)
	check(a, "12345", api.OK, b, a)
	check(b, "12346", api.OK, a, b, b)
	check(api.Id{}, "0000", api.OK, a, api.Id{})
	check(api.Id{31: 1}, strings.Repeat("0", 63)+"1", api.OK, api.Id{}, api.Id{31: 1})
	check(a, "", api.ErrNotFound, b)
	check(a, "", api.ErrNotFound)
	check(api.Id{}, "", api.ErrNotFound, a, b)
}

// TestP11_7Shorten checks that the result is resolved to the identity, and no shorter beginning is.
func TestP11_7Shorten(t *testing.T) {
	random := rand.New(rand.NewSource(116))
	for range 300 {
		l := someIds(1+random.Intn(20), random.Int63())
		for i := range l {
			copy(l[i][:], l[0][:random.Intn(33)])
		}
		for _, id := range l {
			s := checkShorten(t, id, l)
			for n := 4; n <= len(s); n++ {
				got, e := msgid.Resolve(s[:n], l)
				if found := got == id && e == api.OK; found != (n == len(s)) {
					t.Fatalf("Shorten returns %q, and Resolve of %q returns %x, %d", s, s[:n], got, e)
				}
			}
		}
	}
}
