package msgid_test

import (
	"strings"
	"testing"

	"bulletin/api"
	"bulletin/msgid"
)

const letters = "abcdefghijklmnopqrstuvwxyz"

// site is what Site returns by the words of the chapter.
func site(name string) (int, api.Errno) {
	if name == "" {
		return 0, api.ErrShort
	}
	if len(name) > 30 {
		return 30, api.ErrLong
	}
	if rest := strings.TrimLeft(name, letters+"0123456789-."); rest != "" {
		return len(name) - len(rest), api.ErrByte
	}
	if !strings.Contains(letters, name[:1]) {
		return 0, api.ErrName
	}
	if at := strings.Index(name, ".."); at >= 0 {
		return at + 1, api.ErrName
	}
	if strings.HasSuffix(name, "-") || strings.HasSuffix(name, ".") {
		return len(name) - 1, api.ErrName
	}
	return 0, api.OK
}

// checkSite compares Site with the model.
func checkSite(t *testing.T, name string) api.Errno {
	t.Helper()
	want, wanted := site(name)
	if at, e := msgid.Site(name); at != want || e != wanted {
		t.Fatalf("Site(%.80q) = %d, %d, want %d, %d", name, at, e, want, wanted)
	}
	return wanted
}

// TestP11_6Short has all short names of characters of every kind.
func TestP11_6Short(t *testing.T) {
	names, from := []string{""}, 0
	for range 6 {
		to := len(names)
		for _, name := range names[from:to] {
			for _, c := range []string{"a", "z", "0", "-", ".", "_", "A"} {
				names = append(names, name+c)
			}
		}
		from = to
	}
	errors := map[api.Errno]int{}
	for _, name := range names {
		errors[checkSite(t, name)]++
	}
	for _, e := range []api.Errno{api.OK, api.ErrByte, api.ErrName} {
		if errors[e] < 1000 {
			t.Errorf("the errors are %v", errors)
		}
	}
}

// TestP11_6Bytes has every byte at every place of a name.
func TestP11_6Bytes(t *testing.T) {
	for _, name := range []string{"a", "ab", "abc", "a.b", "a-b", "a..b", "b--1.c", "-a_", "news.example-1", strings.Repeat("x", 30)} {
		for place := range len(name) {
			for c := range 256 {
				changed := []byte(name)
				changed[place] = byte(c)
				checkSite(t, string(changed))
			}
		}
	}
}

func TestP11_6Lengths(t *testing.T) {
	for n := range 70 {
		for _, c := range []string{"a", "1", "-", ".", "_", "a-", "a.", "a1", ".a"} {
			name := strings.Repeat(c, n)
			checkSite(t, name)
			checkSite(t, "a"+name)
			checkSite(t, name+"a")
			checkSite(t, name+"_")
		}
	}
	check := func(name string, where int, want api.Errno) {
		t.Helper()
		if at, e := msgid.Site(name); at != where || e != want {
			t.Errorf("Site(%.80q) = %d, %d, want %d, %d", name, at, e, where, want)
		}
	}
	check(strings.Repeat("a", 30), 0, api.OK)
	check(strings.Repeat("a", 29)+".", 29, api.ErrName)
	check(strings.Repeat("a", 31), 30, api.ErrLong)
	check(strings.Repeat("_", 31), 30, api.ErrLong)
	check(strings.Repeat("a", 30)+"-", 30, api.ErrLong)
	check(strings.Repeat("a.", 100000), 30, api.ErrLong)
}

func TestP11_6Examples(t *testing.T) {
	check := func(name string, where int, want api.Errno) {
		t.Helper()
		if at, e := msgid.Site(name); at != where || e != want {
			t.Errorf("Site(%q) = %d, %d, want %d, %d", name, at, e, where, want)
		}
	}
	check("news.example-1", 0, api.OK)
	check("a..b", 2, api.ErrName)
	check("a_b", 1, api.ErrByte)
	check("b.", 1, api.ErrName)
	check("", 0, api.ErrShort)
	check("a.-b", 0, api.OK) // only a dot must not follow a dot
	check("a--b", 0, api.OK)
	check("a.1", 0, api.OK)
	check("1a", 0, api.ErrName)
	check("-", 0, api.ErrName)
	check(".", 0, api.ErrName)
	check("a...", 2, api.ErrName)
	check("1..b.", 0, api.ErrName) // of several places, the first one
	check("a..b-", 2, api.ErrName)
	check("a..B", 3, api.ErrByte) // any wrong byte comes before a wrong place
}
