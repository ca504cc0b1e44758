package wildmat_test

import (
	"math/rand"
	"slices"
	"strings"
	"testing"
	"unsafe"

	"bulletin/api"
	"bulletin/wildmat"
)

// listed is a pattern of a list with what precedes it.
type listed struct{ prefix, pattern string }

// parseList is what ParseList does by the words of the chapter.
func parseList(s string) ([]listed, int, api.Errno) {
	if s == "" {
		return nil, 0, api.ErrShort
	}
	var l []listed
	begin := 0
	for _, part := range strings.Split(s, ",") {
		if len(l) == 64 {
			return nil, begin, api.ErrLimit
		}
		prefix := ""
		if part != "" && (part[0] == '!' || part[0] == '@') {
			prefix = part[:1]
		}
		pattern := part[len(prefix):]
		if _, at, e := elements(pattern); e != api.OK {
			return nil, begin + len(prefix) + at, e
		}
		l = append(l, listed{prefix, pattern})
		begin += len(part) + 1
	}
	return l, 0, api.OK
}

// verdict is the verdict of a list by the words of the chapter.
func verdict(l []listed, name string) int {
	result := 0
	for _, x := range l {
		if onlyName.MatchString(name) && expression(x.pattern).MatchString(name) {
			result = map[string]int{"": 1, "!": 2, "@": 3}[x.prefix]
		}
	}
	return result
}

// checkParseList compares ParseList, String and Len with the model.
func checkParseList(t *testing.T, s string) api.Errno {
	t.Helper()
	want, wantAt, wanted := parseList(s)
	l, at, e := wildmat.ParseList(s)
	if at != wantAt || e != wanted || (l == nil) != (wanted != api.OK) {
		t.Fatalf("ParseList(%.200q) = %v, %d, %d, want %d, %d", s, l, at, e, wantAt, wanted)
	}
	if l != nil && (l.String() != s || l.Len() != len(want)) {
		t.Fatalf("ParseList(%q) has %d patterns and is printed as %q", s, l.Len(), l.String())
	}
	return wanted
}

// parsed returns a list that must be valid.
func parsed(t *testing.T, s string) *wildmat.List {
	t.Helper()
	l, at, e := wildmat.ParseList(s)
	if l == nil || at != 0 || e != api.OK {
		t.Fatalf("ParseList(%q) = %v, %d, %d", s, l, at, e)
	}
	return l
}

// checkVerdicts compares Verdict with the model, and Filter and Selects with Verdict, for some names.
func checkVerdicts(t *testing.T, s string, names []string, verdicts map[int]int) {
	t.Helper()
	model, _, _ := parseList(s)
	l := parsed(t, s)
	var accepted []string
	poisoned := false
	for _, name := range names {
		want := verdict(model, name)
		if got := l.Verdict(name); got != want {
			t.Fatalf("the verdict of %q on %q is %d, want %d", s, name, got, want)
		}
		if want == wildmat.Accepted {
			accepted = append(accepted, name)
		}
		poisoned = poisoned || want == wildmat.Poisoned
		verdicts[want]++
	}
	if got := l.Filter(names); !slices.Equal(got, accepted) {
		t.Fatalf("Filter of %q for %q = %q, want %q", s, names, got, accepted)
	}
	if want := len(accepted) > 0 && !poisoned; l.Selects(names) != want {
		t.Fatalf("Selects of %q for %q is %t", s, names, !want)
	}
}

// TestP13_3Short has all short texts of patterns, prefixes and commas.
func TestP13_3Short(t *testing.T) {
	errors := map[api.Errno]int{}
	for _, s := range textsOf(6, "a", "[b]", ",", "!", "@", "[", "A") {
		errors[checkParseList(t, s)]++
	}
	for _, e := range []api.Errno{api.OK, api.ErrShort, api.ErrFormat, api.ErrByte} {
		if errors[e] < 500 {
			t.Errorf("the errors are %v", errors)
		}
	}
}

// TestP13_3Bytes has every byte at every place of some lists.
func TestP13_3Bytes(t *testing.T) {
	for _, s := range []string{"*,!alt.*,alt.answers,@*.bin", "a,b", "!a", "@[a-c],!?*,x[^-a]", "a,[b,c]"} {
		for place := range len(s) {
			for c := range 256 {
				changed := []byte(s)
				changed[place] = byte(c)
				checkParseList(t, string(changed))
			}
		}
	}
}

// TestP13_3Numbers has lists of up to 70 patterns, correct ones and others.
func TestP13_3Numbers(t *testing.T) {
	for n := 1; n <= 70; n++ {
		for _, pattern := range []string{"a", "!ab*", "@[a-c]", "?"} {
			l := slices.Repeat([]string{pattern}, n)
			want := api.OK
			if n > 64 {
				want = api.ErrLimit
			}
			if e := checkParseList(t, strings.Join(l, ",")); e != want {
				t.Errorf("%d patterns: %d", n, e)
			}
			for _, place := range []int{0, n / 2, n - 1, min(n-1, 63), min(n-1, 64)} {
				for _, wrong := range []string{"", "!", "@", "!!", "A", "a[", "b]", strings.Repeat("c", 81)} {
					changed := slices.Clone(l)
					changed[place] = wrong
					checkParseList(t, strings.Join(changed, ","))
				}
			}
		}
	}
}

func TestP13_3Errors(t *testing.T) {
	wants := func(s string, wantAt int, want api.Errno) {
		t.Helper()
		checkParseList(t, s)
		if l, at, e := wildmat.ParseList(s); l != nil || at != wantAt || e != want {
			t.Errorf("ParseList(%.100q) = %v, %d, %d, want %d, %d", s, l, at, e, wantAt, want)
		}
	}
	long := strings.Repeat("a", 81)
	wants("", 0, api.ErrShort)
	wants(",", 0, api.ErrShort)
	wants("a,", 2, api.ErrShort)
	wants("a,,b", 2, api.ErrShort)
	wants("!", 1, api.ErrShort)
	wants("a,@", 3, api.ErrShort)
	wants("!!a", 1, api.ErrByte)
	wants("@!a", 1, api.ErrByte)
	wants("!@a", 1, api.ErrByte)
	wants("a!", 1, api.ErrByte)
	wants("a, b", 2, api.ErrByte)
	wants(" ", 0, api.ErrByte)
	wants("a,!b[", 4, api.ErrFormat)
	wants("a,[b,c]", 2, api.ErrFormat)
	wants(long, 80, api.ErrLong)
	wants("!"+long, 81, api.ErrLong)
	wants("a,@"+long, 83, api.ErrLong)
	wants("a,"+long+",A", 82, api.ErrLong)
	wants("A,"+long, 0, api.ErrByte)
	wants(strings.Repeat("a,", 64), 128, api.ErrLimit)
	wants(strings.Repeat("a,", 64)+"A", 128, api.ErrLimit)
	wants(strings.Repeat("a,", 64)+"!", 128, api.ErrLimit)
	wants(strings.Repeat("!a,", 64)+"@b", 192, api.ErrLimit)
	wants(strings.Repeat("a,", 63)+"A,b", 126, api.ErrByte)
	wants(strings.Repeat("a,", 63), 126, api.ErrShort)
	wants(strings.Repeat("a,", 1<<20), 128, api.ErrLimit)
	wants(strings.Repeat("a", 1<<20), 80, api.ErrLong)
	wants(strings.Repeat(",", 1<<20), 0, api.ErrShort)
}

// TestP13_3Long has a list of as many patterns of as many bytes as possible.
func TestP13_3Long(t *testing.T) {
	s := strings.Repeat(",!"+strings.Repeat("a", 79)+"*", 64)[1:]
	if e := checkParseList(t, s); e != api.OK {
		t.Errorf("the error is %d", e)
	}
	l := parsed(t, s)
	if l.Verdict(strings.Repeat("a", 1<<20)) != wildmat.Rejected || l.Verdict(strings.Repeat("a", 78)) != wildmat.Unmatched {
		t.Error("the verdicts are wrong")
	}
}

func TestP13_4Example(t *testing.T) {
	if wildmat.Unmatched != 0 || wildmat.Accepted != 1 || wildmat.Rejected != 2 || wildmat.Poisoned != 3 {
		t.Error("the verdicts have other numbers")
	}
	l := parsed(t, "*,!alt.*,alt.answers,@*.bin") // example 3
	for name, want := range map[string]int{"comp.os": 1, "alt.answers": 1, "alt.x": 2, "alt.bin": 3, "comp.bin": 3, "alt.answers.bin": 3, "alt": 1, "": 1, "A": 0, "alt.A": 0} {
		if got := l.Verdict(name); got != want {
			t.Errorf("the verdict on %q is %d", name, got)
		}
	}
	for _, x := range []struct {
		names []string
		want  bool
	}{
		{[]string{"alt.x", "comp.os"}, true}, {[]string{"comp.os", "alt.bin"}, false}, {[]string{"alt.bin", "comp.os"}, false},
		{[]string{"comp.os"}, true}, {[]string{"alt.x"}, false}, {[]string{"alt.bin"}, false}, {[]string{"A"}, false}, {nil, false},
		{[]string{"A", "comp.os", "alt.x", "B"}, true}, {[]string{"comp.os", "comp.os"}, true}, {[]string{"a", "b", "c", "x.bin", "d"}, false},
	} {
		if l.Selects(x.names) != x.want {
			t.Errorf("Selects(%q) is %t", x.names, !x.want)
		}
	}
	if got := l.Filter([]string{"b", "alt.x", "a", "alt.bin", "b", "A", "alt.answers"}); !slices.Equal(got, []string{"b", "a", "b", "alt.answers"}) {
		t.Errorf("Filter = %q", got)
	}
	if got := l.Filter(nil); len(got) != 0 {
		t.Errorf("Filter of nothing = %q", got)
	}
}

// TestP13_4Short has all lists of up to three patterns with all prefixes, and sets of names.
func TestP13_4Short(t *testing.T) {
	var patterns []string
	for _, prefix := range []string{"", "!", "@"} {
		for _, pattern := range []string{"*", "a*", "ab", "?b", "[^a]*"} {
			patterns = append(patterns, ","+prefix+pattern)
		}
	}
	verdicts := map[int]int{}
	for _, s := range textsOf(3, patterns...)[1:] {
		checkVerdicts(t, s[1:], []string{"", "a", "ab", "bb", "A"}, verdicts)
	}
	for v := range 4 {
		if verdicts[v] < 1000 {
			t.Errorf("the verdicts are %v", verdicts)
		}
	}
}

// TestP13_4Names has all lists of up to four names, with repetitions.
func TestP13_4Names(t *testing.T) {
	names := []string{"alt.x", "comp.os", "alt.bin", "A", "b"}
	for _, text := range textsOf(4, "0", "1", "2", "3", "4") {
		var l []string
		for _, digit := range text {
			l = append(l, names[digit-'0'])
		}
		checkVerdicts(t, "*,!alt.*,alt.answers,@*.bin", l, map[int]int{})
		checkVerdicts(t, "!b,@comp.*", l, map[int]int{})
	}
}

// TestP13_4Random has longer lists.
func TestP13_4Random(t *testing.T) {
	random := rand.New(rand.NewSource(134))
	names := textsOf(3, "a", "b", ".")
	verdicts := map[int]int{}
	for range 200 {
		var l []string
		for range 1 + random.Intn(64) {
			l = append(l, []string{"", "!", "@"}[random.Intn(3)]+randomPattern(random, 5))
		}
		var some []string
		for range 5 {
			some = append(some, names[random.Intn(len(names))])
		}
		checkVerdicts(t, strings.Join(l, ","), some, verdicts)
	}
	for v := range 4 {
		if verdicts[v] < 50 {
			t.Errorf("the verdicts are %v", verdicts)
		}
	}
}

func TestP13_5NilList(t *testing.T) {
	var l *wildmat.List
	if l.String() != "" || l.Len() != 0 {
		t.Errorf("a nil list has the text %q and %d patterns", l.String(), l.Len())
	}
	for _, name := range []string{"", "a", "comp.os", "A"} {
		if l.Verdict(name) != wildmat.Unmatched || l.Selects([]string{name}) || len(l.Filter([]string{name, name})) != 0 {
			t.Errorf("a nil list has a verdict on %q", name)
		}
	}
	if l.Selects(nil) || len(l.Filter(nil)) != 0 {
		t.Error("a nil list selects nothing at all")
	}
}

// TestP13_6Appended checks that a pattern that is appended to a list decides on every name that it matches, and on no other one.
func TestP13_6Appended(t *testing.T) {
	names := textsOf(4, "a", "b", ".", "c")
	random := rand.New(rand.NewSource(135))
	for range 200 {
		s := randomPattern(random, 4) + ",!" + randomPattern(random, 4) + ",@" + randomPattern(random, 4)
		last := randomPattern(random, 4)
		l, p := parsed(t, s), compiled(t, last)
		for prefix, want := range map[string]int{"": wildmat.Accepted, "!": wildmat.Rejected, "@": wildmat.Poisoned} {
			longer := parsed(t, s+","+prefix+last)
			for _, name := range names {
				if !p.Match(name) {
					if longer.Verdict(name) != l.Verdict(name) {
						t.Fatalf("%q, %q: the verdict on %q has changed", s, prefix+last, name)
					}
				} else if longer.Verdict(name) != want {
					t.Fatalf("%q, %q: the verdict on %q is %d", s, prefix+last, name, longer.Verdict(name))
				}
			}
		}
	}
}

// TestP13_6RetainedByLists checks that lists and their results keep no memory of the arguments, and change none of them.
func TestP13_6RetainedByLists(t *testing.T) {
	b := []byte("comp.*,!a?,@[b-d]")
	l := parsed(t, unsafe.String(&b[0], len(b)))
	text := l.String()
	clear(b)
	if l.String() != "comp.*,!a?,@[b-d]" || text != "comp.*,!a?,@[b-d]" || l.Len() != 3 {
		t.Errorf("the text is %q and %q", l.String(), text)
	}
	if l.Verdict("comp.os") != wildmat.Accepted || l.Verdict("ax") != wildmat.Rejected || l.Verdict("c") != wildmat.Poisoned {
		t.Error("the list has changed")
	}
	name := []byte("comp.os")
	names := []string{"x", unsafe.String(&name[0], len(name)), "comp.a"}
	before := slices.Clone(names)
	if !l.Selects(names) {
		t.Error("the names are not selected")
	}
	accepted := l.Filter(names)
	if !slices.Equal(names, before) {
		t.Errorf("the names are now %q", names)
	}
	clear(name)
	names[2] = "y"
	if !slices.Equal(accepted, []string{"comp.os", "comp.a"}) {
		t.Errorf("the accepted names are now %q", accepted)
	}
	again := l.Filter([]string{"comp.os", "comp.a"})
	again[0] = "z"
	if third := l.Filter([]string{"comp.os", "comp.a"}); third[0] != "comp.os" {
		t.Errorf("Filter = %q", third)
	}
}
