package groupname_test

import (
	"math/rand"
	"slices"
	"strings"
	"testing"

	"bulletin/api"
	"bulletin/groupname"
)

// This file and list_test.go have the terms of the chapter once more, over the parts into which the standard library divides texts.

const (
	letters = "abcdefghijklmnopqrstuvwxyz"
	others  = "0123456789-+_"
)

// only reports whether s has no other bytes than some.
func only(s, bytes string) bool {
	for i := range len(s) {
		if strings.IndexByte(bytes, s[i]) < 0 {
			return false
		}
	}
	return true
}

func isComponent(s string) bool {
	return len(s) >= 1 && len(s) <= 20 && only(s[:1], letters) && only(s, letters+others)
}

// check is the error of a name by the words of the chapter.
func check(name string) api.Errno {
	if len(name) > 80 {
		return api.ErrLong
	}
	parts := strings.Split(name, ".")
	for _, part := range parts {
		if !isComponent(part) {
			return api.ErrName
		}
	}
	if len(parts) > 10 {
		return api.ErrLimit
	}
	return api.OK
}

// belongs reports whether both are names and the first one belongs to the second one.
func belongs(name, hierarchy string) bool {
	if check(name) != api.OK || check(hierarchy) != api.OK {
		return false
	}
	a, h := strings.Split(name, "."), strings.Split(hierarchy, ".")
	return len(h) <= len(a) && slices.Equal(a[:len(h)], h)
}

// compare compares the parts of two strings.
func compare(a, b string) int {
	return slices.Compare(strings.Split(a, "."), strings.Split(b, "."))
}

// checkName compares Check, Split and Parent with the model.
func checkName(t *testing.T, name string) api.Errno {
	t.Helper()
	want := check(name)
	if e := groupname.Check(name); e != want {
		t.Fatalf("Check(%.100q) = %d, want %d", name, e, want)
	}
	var components []string
	parent, hasParent := "", false
	if want == api.OK {
		components = strings.Split(name, ".")
		parent = strings.Join(components[:len(components)-1], ".")
		hasParent = len(components) > 1
	}
	if l, e := groupname.Split(name); e != want || !slices.Equal(l, components) {
		t.Fatalf("Split(%.100q) = %q, %d, want %q, %d", name, l, e, components, want)
	}
	if s, ok := groupname.Parent(name); s != parent || ok != hasParent {
		t.Fatalf("Parent(%.100q) = %q, %t, want %q, %t", name, s, ok, parent, hasParent)
	}
	return want
}

// textsOf returns all texts of up to so many parts.
func textsOf(most int, parts ...string) []string {
	all, from := []string{""}, 0
	for range most {
		to := len(all)
		for _, s := range all[from:to] {
			for _, part := range parts {
				all = append(all, s+part)
			}
		}
		from = to
	}
	return all
}

func TestP12_1Limits(t *testing.T) {
	if groupname.MaxComponent != 20 || groupname.MaxComponents != 10 || groupname.MaxNames != 4096 {
		t.Errorf("the limits are %d, %d and %d", groupname.MaxComponent, groupname.MaxComponents, groupname.MaxNames)
	}
}

// TestP12_1Short has all short texts of bytes of every kind.
func TestP12_1Short(t *testing.T) {
	errors := map[api.Errno]int{}
	for _, name := range textsOf(6, "a", "z", "0", "-", ".", "A") {
		errors[checkName(t, name)]++
	}
	if errors[api.OK] < 1000 || errors[api.ErrName] < 1000 {
		t.Errorf("the errors are %v", errors)
	}
}

// TestP12_1Bytes has every byte at every place of some names.
func TestP12_1Bytes(t *testing.T) {
	for _, name := range []string{"a", "ab", "a.b", "comp.lang-a.misc", "a1+_-.b", "abcdefghijklmnopqrst", "a.b.c.d.e.f.g.h.i.j", "a.b.c.d.e.f.g.h.i.j.k"} {
		for place := range len(name) {
			for c := range 256 {
				changed := []byte(name)
				changed[place] = byte(c)
				checkName(t, string(changed))
			}
		}
	}
}

// TestP12_1Lengths has components of up to 25 bytes and names of up to 100.
func TestP12_1Lengths(t *testing.T) {
	component := "abcdefghijklmnopqrstuvwxy"
	for n := range len(component) + 1 {
		for _, name := range []string{component[:n], "x." + component[:n], component[:n] + ".x"} {
			want := api.ErrName
			if 1 <= n && n <= 20 {
				want = api.OK
			}
			if e := checkName(t, name); e != want {
				t.Errorf("%q: %d", name, e)
			}
		}
	}
	long := strings.Repeat("abcdefghijklmnopqrs.", 5)
	for n := range len(long) + 1 {
		name := long[:n]
		checkName(t, name)
		checkName(t, name+"x")
		checkName(t, name+"X")
		checkName(t, strings.Repeat(".", n))
		checkName(t, strings.Repeat("x", n))
		checkName(t, strings.Repeat("x.", n)+"x")
		checkName(t, strings.Repeat("x.", n))
		checkName(t, strings.Repeat("xyz1234.", n)+"y")
	}
}

// TestP12_1Errors has strings to which several errors apply.
func TestP12_1Errors(t *testing.T) {
	wants := func(name string, want api.Errno) {
		t.Helper()
		if e := checkName(t, name); e != want {
			t.Errorf("Check(%.100q) = %d, want %d", name, e, want)
		}
	}
	wants("", api.ErrName)
	wants(strings.Repeat("abcdefghijklmnopqrs.", 3)+"abcdefghijklmnopqrst", api.OK) // 80 bytes
	wants(strings.Repeat("abcdefghijklmnopqrs.", 3)+"Abcdefghijklmnopqrst", api.ErrName)
	wants(strings.Repeat("abcdefghijklmnopqrs.", 4), api.ErrName)
	wants(strings.Repeat("abcdefghijklmnopqrs.", 4)+"a", api.ErrLong)
	wants(strings.Repeat("A", 81), api.ErrLong)
	wants(strings.Repeat("a.", 40)+"a", api.ErrLong)
	wants(strings.Repeat("a.", 39)+"a", api.ErrLimit)
	wants(strings.Repeat("a.", 39)+"A", api.ErrName)
	wants(strings.Repeat("a.", 39)+".", api.ErrName)
	wants(strings.Repeat("a.", 9)+"a", api.OK)
	wants(strings.Repeat("a.", 10)+"a", api.ErrLimit)
	wants(strings.Repeat("a.", 10), api.ErrName)
	wants(strings.Repeat("a", 1<<20), api.ErrLong)
	wants(strings.Repeat(".", 1<<20), api.ErrLong)
}

// join is what Join returns by the words of the chapter.
func join(l []string) (string, api.Errno) {
	for _, s := range l {
		if !isComponent(s) {
			return "", api.ErrName
		}
	}
	if len(l) == 0 {
		return "", api.ErrName
	}
	name := strings.Join(l, ".")
	if e := check(name); e != api.OK {
		return "", e
	}
	return name, api.OK
}

// checkJoin compares Join with the model.
func checkJoin(t *testing.T, l []string) api.Errno {
	t.Helper()
	want, wanted := join(l)
	if s, e := groupname.Join(l); s != want || e != wanted {
		t.Fatalf("Join(%.200q) = %q, %d, want %q, %d", l, s, e, want, wanted)
	}
	return wanted
}

func TestP12_1Join(t *testing.T) {
	wants := func(want api.Errno, l ...string) {
		t.Helper()
		if e := checkJoin(t, l); e != want {
			t.Errorf("Join(%.200q): %d, want %d", l, e, want)
		}
	}
	long := "abcdefghijklmnopqrst"
	wants(api.ErrName)
	wants(api.OK, "a")
	wants(api.OK, "comp", "lang-a", "misc")
	wants(api.ErrName, "")
	wants(api.ErrName, "a", "")
	wants(api.ErrName, "", "a")
	wants(api.ErrName, "a", "b.c")
	wants(api.ErrName, "a.b")
	wants(api.ErrName, ".")
	wants(api.OK, long, long, long, long[:17])
	wants(api.ErrLong, long, long, long, long[:18])
	wants(api.ErrName, long, long, long, long[:18], "B")
	wants(api.ErrName, long+"u")
	wants(api.OK, strings.Split("a.b.c.d.e.f.g.h.i.j", ".")...)
	wants(api.ErrLimit, strings.Split("a.b.c.d.e.f.g.h.i.j.k", ".")...)
	wants(api.ErrName, strings.Split("a.b.c.d.e.f.g.h.i.j.K", ".")...)
	wants(api.ErrLimit, slices.Repeat([]string{"a"}, 40)...)
	wants(api.ErrLong, slices.Repeat([]string{"a"}, 41)...)
	wants(api.ErrLong, slices.Repeat([]string{"a"}, 100000)...)
	wants(api.ErrName, append(slices.Repeat([]string{"a"}, 41), "")...)
}

// someParts are components and strings that are none.
var someParts = []string{"a", "ab", "a-b", "a+", "z9", "abcdefghijklmnopqrst", "", ".", "A", "1", "a.b", "abcdefghijklmnopqrstu"}

func TestP12_1JoinLists(t *testing.T) {
	for _, a := range someParts {
		checkJoin(t, []string{a})
		for _, b := range someParts {
			checkJoin(t, []string{a, b})
			for _, c := range someParts {
				checkJoin(t, []string{a, b, c})
				checkJoin(t, []string{a, b, c, a, a, b, c, "b"})
			}
		}
	}
}

// someNames are names and strings that are none, many of which have the same components at the beginning.
func someNames() []string {
	l := textsOf(5, "a", "b", ".", "-")
	l = append(l, "comp", "comp.lang", "comp.lang.misc", "comp.lang-a", "comp.lang-a.misc", "comp.lang+a", "comp.language", "comp.lang1", "comp.lan", "com", "A.b", "a.B", "a.b.c.d.e.f.g.h.i.j", "a.b.c.d.e.f.g.h.i.j.k", "a.b.c.d.e.f.g.h.i")
	long := "abcdefghijklmnopqrs."
	return append(l, long+long+long+"abcdefghijklmnopqrst", long+long+long+"abcdefghijklmnopqrstu", long+long+long+long+"a", long[:19], "\x00", "\xff.a", "a.\xff")
}

// TestP12_2Pairs compares Within, Common and Compare with the model, for all pairs of some strings.
func TestP12_2Pairs(t *testing.T) {
	names := someNames()
	for i, a := range names {
		for j, b := range names {
			if i%3 > 0 && j%3 > 0 && i < 1000 && j < 1000 {
				continue // of the short texts, a third is enough on one side
			}
			if got := groupname.Within(a, b); got != belongs(a, b) {
				t.Fatalf("Within(%q, %q) = %t", a, b, got)
			}
			if got, want := groupname.Compare(a, b), compare(a, b); got != want {
				t.Fatalf("Compare(%q, %q) = %d, want %d", a, b, got, want)
			}
			want, found := common(a, b)
			if got, ok := groupname.Common(a, b); got != want || ok != found {
				t.Fatalf("Common(%q, %q) = %q, %t, want %q, %t", a, b, got, ok, want, found)
			}
		}
	}
}

// common is the longest name to which both names belong.
func common(a, b string) (string, bool) {
	for n := len(a); n > 0; n-- {
		if belongs(a, a[:n]) && belongs(b, a[:n]) {
			return a[:n], true
		}
	}
	return "", false
}

func TestP12_2Parent(t *testing.T) {
	wants := func(name, parent string, has bool) {
		t.Helper()
		if s, ok := groupname.Parent(name); s != parent || ok != has {
			t.Errorf("Parent(%q) = %q, %t", name, s, ok)
		}
	}
	wants("comp.lang-a.misc", "comp.lang-a", true) // example 1
	wants("comp.lang-a", "comp", true)
	wants("comp", "", false)
	wants("", "", false)
	wants("a.", "", false)
	wants(".a", "", false)
	wants("a.B", "", false)
	wants("a.b.c.d.e.f.g.h.i.j", "a.b.c.d.e.f.g.h.i", true)
	wants("a.b.c.d.e.f.g.h.i.j.k", "", false)
}

func TestP12_2Within(t *testing.T) {
	wants := func(name, hierarchy string, want bool) {
		t.Helper()
		if got := groupname.Within(name, hierarchy); got != want {
			t.Errorf("Within(%q, %q) = %t", name, hierarchy, got)
		}
	}
	wants("a", "a", true)
	wants("a.b", "a", true)
	wants("a.b.c", "a", true)
	wants("a.b.c", "a.b", true)
	wants("a", "a.b", false)
	wants("ab", "a", false)
	wants("a-b", "a", false)
	wants("a.bc", "a.b", false)
	wants("b.a", "a", false)
	wants("a", "", false)
	wants("", "", false)
	wants("A", "A", false)
	wants("a.B", "a", false)
	wants("a.b", "a.", false)
	wants("a.", "a", false)
	wants("a.b.c.d.e.f.g.h.i.j.k", "a", false)
	wants("a.b.c.d.e.f.g.h.i.j", "a.b.c.d.e.f.g.h.i.j", true)
	wants("a."+strings.Repeat("b", 100), "a", false)
}

func TestP12_2Common(t *testing.T) {
	wants := func(a, b, want string, found bool) {
		t.Helper()
		if got, ok := groupname.Common(a, b); got != want || ok != found {
			t.Errorf("Common(%q, %q) = %q, %t", a, b, got, ok)
		}
	}
	wants("comp.lang.a", "comp.lang.b", "comp.lang", true)
	wants("comp.lang.a", "comp.lang-a", "comp", true)
	wants("comp.lang", "comp.language", "comp", true)
	wants("a.b", "a.b", "a.b", true)
	wants("a.b.c", "a.b", "a.b", true)
	wants("a", "a.b", "a", true)
	wants("a.c.b", "b.c.b", "", false)
	wants("ab", "a", "", false)
	wants("a", "a.B", "", false)
	wants("a.B", "a", "", false)
	wants("A", "A", "", false)
	wants("", "", "", false)
	wants("a.b.c.d.e.f.g.h.i.j.k", "a.b", "", false)
}

func TestP12_3Compare(t *testing.T) {
	inOrder := []string{"", ".", "..", ".a", "\x00", "+", "+.", "-", "-.-", "/", "A", "a", "a.", "a.b", "a.b.a", "a.b-", "a.b0", "a.ba", "a\x00", "a\x00.", "a+b", "a-", "a-.b", "a-b", "a/", "a0", "a_", "aa", "aa.b", "b", "comp.lang", "comp.lang.misc", "comp.lang-a", "comp.lang-a.misc", "\xff", "\xff\xff"}
	for i, a := range inOrder {
		for j, b := range inOrder {
			want := 0
			if i < j {
				want = -1
			} else if i > j {
				want = 1
			}
			if got := groupname.Compare(a, b); got != want {
				t.Errorf("Compare(%q, %q) = %d, want %d", a, b, got, want)
			}
		}
	}
}

// TestP12_3Random compares strings of any bytes.
func TestP12_3Random(t *testing.T) {
	random := rand.New(rand.NewSource(123))
	text := func() string {
		b := make([]byte, random.Intn(8))
		for i := range b {
			b[i] = byte(random.Intn(256))
			if random.Intn(2) == 0 {
				b[i] = "..-a/\x00"[random.Intn(6)]
			}
		}
		return string(b)
	}
	for range 100000 {
		a, b, same := text(), text(), text()
		if random.Intn(2) == 0 {
			a, b = same+a, same+b
		}
		if got, want := groupname.Compare(a, b), compare(a, b); got != want {
			t.Fatalf("Compare(%q, %q) = %d, want %d", a, b, got, want)
		}
	}
	long := strings.Repeat("a.", 1<<20)
	if groupname.Compare(long, long) != 0 || groupname.Compare(long+"b", long+"a") != 1 || groupname.Compare(long, long+".") != -1 {
		t.Error("long texts are not compared as short ones")
	}
}
