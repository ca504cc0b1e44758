package wildmat_test

import (
	"math/rand"
	"regexp"
	"slices"
	"strings"
	"testing"
	"unsafe"

	"bulletin/api"
	"bulletin/wildmat"
)

// These files have the terms of the chapter once more, over regular expressions.

const nameCharacters = "+-.0123456789_abcdefghijklmnopqrstuvwxyz" // in bytewise order

var (
	classText = regexp.MustCompile(`^\[\^?(?:-|[a-z]-[a-z]|[0-9]-[0-9]|[a-z0-9+_.])(?:[a-z]-[a-z]|[0-9]-[0-9]|[a-z0-9+_.])*\]`)
	rangeText = regexp.MustCompile(`[a-z]-[a-z]|[0-9]-[0-9]`)
)

// classAt returns the class with which s begins, or an empty string.
func classAt(s string) string {
	class := classText.FindString(s)
	for _, r := range rangeText.FindAllString(strings.TrimPrefix(strings.TrimPrefix(class, "["), "^"), -1) {
		if r[0] > r[2] {
			return ""
		}
	}
	return class
}

// elements divides a pattern into its elements; on error it returns the offset.
func elements(s string) ([]string, int, api.Errno) {
	if s == "" {
		return nil, 0, api.ErrShort
	}
	if len(s) > 80 {
		return nil, 80, api.ErrLong
	}
	var l []string
	for at := 0; at < len(s); {
		element := s[at : at+1]
		if element == "[" {
			element = classAt(s[at:])
		}
		if element == "" {
			return nil, at, api.ErrFormat
		}
		if !strings.Contains(nameCharacters+"?*", element) && len(element) == 1 {
			return nil, at, api.ErrByte
		}
		l = append(l, element)
		at += len(element)
	}
	return l, 0, api.OK
}

// anyOne is the regular expression of the name characters.
const anyOne = `[-+._0-9a-z]`

var onlyName = regexp.MustCompile(`\A` + anyOne + `*\z`)

// expression returns what matches the same names as a pattern; a class has the same text as there.
func expression(pattern string) *regexp.Regexp {
	l, _, _ := elements(pattern)
	var s strings.Builder
	for _, element := range l {
		switch {
		case element == "?":
			s.WriteString(anyOne)
		case element == "*":
			s.WriteString(anyOne + "*")
		case len(element) > 1:
			s.WriteString(element)
		default:
			s.WriteString(regexp.QuoteMeta(element))
		}
	}
	return regexp.MustCompile(`\A(?:` + s.String() + `)\z`)
}

// compiled returns a pattern that must be valid.
func compiled(t *testing.T, s string) *wildmat.Pattern {
	t.Helper()
	p, at, e := wildmat.Compile(s)
	if p == nil || at != 0 || e != api.OK {
		t.Fatalf("Compile(%q) = %v, %d, %d", s, p, at, e)
	}
	return p
}

// checkCompile compares Compile and String with the model.
func checkCompile(t *testing.T, s string) api.Errno {
	t.Helper()
	_, wantAt, want := elements(s)
	p, at, e := wildmat.Compile(s)
	if at != wantAt || e != want || (p == nil) != (want != api.OK) {
		t.Fatalf("Compile(%.100q) = %v, %d, %d, want %d, %d", s, p, at, e, wantAt, want)
	}
	if p != nil && p.String() != s {
		t.Fatalf("Compile(%q) is printed as %q", s, p.String())
	}
	return want
}

// checkMatch compares Match with the model for some names, and returns how many of them match.
func checkMatch(t *testing.T, s string, names []string) int {
	t.Helper()
	p, e := compiled(t, s), expression(s)
	matched := 0
	for _, name := range names {
		want := onlyName.MatchString(name) && e.MatchString(name) // a class with ^ stands for name characters only
		if got := p.Match(name); got != want {
			t.Fatalf("Match of %q for %.100q is %t", s, name, got)
		}
		if want {
			matched++
		}
	}
	return matched
}

// textsOf returns all texts of up to so many parts, the shorter ones first.
func textsOf(most int, parts ...string) []string {
	all, from := []string{""}, 0
	for range most {
		to := len(all)
		for _, s := range all[from:to] {
			for _, part := range parts {
				all = append(all, s+part)
			}
		}
		from = to
	}
	return all
}

func TestP13_1Limits(t *testing.T) {
	if wildmat.MaxPattern != 80 || wildmat.MaxList != 64 {
		t.Errorf("the limits are %d and %d", wildmat.MaxPattern, wildmat.MaxList)
	}
	for n := range 100 {
		for _, s := range []string{"a", "*", "?", "[", "A", "[a]", "[b-z]", "[^-9]", "a]"} {
			checkCompile(t, strings.Repeat(s, n))
			checkCompile(t, strings.Repeat("x", n)+s)
			checkCompile(t, "["+strings.Repeat("a", n)+"]"+s)
		}
	}
	for _, n := range []int{81, 1 << 10, 1 << 20} {
		for _, s := range []string{"a", "*", "[", "A", ",", "\xff"} {
			if p, at, e := wildmat.Compile(strings.Repeat(s, n)); p != nil || at != 80 || e != api.ErrLong {
				t.Errorf("Compile of %d times %q = %v, %d, %d", n, s, p, at, e)
			}
		}
	}
}

// TestP13_1Bytes has every byte at every place of some patterns.
func TestP13_1Bytes(t *testing.T) {
	errors := map[api.Errno]int{}
	for _, s := range []string{"a", "ab", "comp.*", "?[a-c][^0-9]", "[-a]x", "[^-a+_.]", "x[a]y[b", "a[0-9a-z_]*", "[^^]", "[[]", "[a-cx-z]", "B[", strings.Repeat("[0-9]", 16)} {
		for place := range len(s) {
			for c := range 256 {
				changed := []byte(s)
				changed[place] = byte(c)
				errors[checkCompile(t, string(changed))]++
			}
		}
	}
	if errors[api.OK] < 500 || errors[api.ErrFormat] < 500 || errors[api.ErrByte] < 500 {
		t.Errorf("the errors are %v", errors)
	}
}

// TestP13_1Short has all short texts of characters that matter in classes.
func TestP13_1Short(t *testing.T) {
	errors := map[api.Errno]int{}
	for _, s := range textsOf(6, "[", "^", "-", "a", "b", "1", "]") {
		errors[checkCompile(t, s)]++
		errors[checkCompile(t, "["+s+"]")]++
	}
	if errors[api.OK] < 1000 || errors[api.ErrFormat] < 1000 || errors[api.ErrByte] < 1000 {
		t.Errorf("the errors are %v", errors)
	}
}

// TestP13_1Ranges has all ranges of two bytes, in classes of several kinds.
func TestP13_1Ranges(t *testing.T) {
	for a := range 256 {
		for b := range 256 {
			s := string([]byte{byte(a), '-', byte(b)})
			for _, text := range []string{"[" + s + "]", "[^x" + s + "]", "y[" + s + s + "]"} {
				_, wantAt, want := elements(text)
				if p, at, e := wildmat.Compile(text); at != wantAt || e != want || (p == nil) != (want != api.OK) {
					t.Fatalf("Compile(%q) = %v, %d, %d, want %d, %d", text, p, at, e, wantAt, want)
				}
			}
		}
	}
}

func TestP13_1Errors(t *testing.T) {
	wants := func(s string, wantAt int, want api.Errno) {
		t.Helper()
		checkCompile(t, s)
		if p, at, e := wildmat.Compile(s); p != nil || at != wantAt || e != want {
			t.Errorf("Compile(%.100q) = %v, %d, %d, want %d, %d", s, p, at, e, wantAt, want)
		}
	}
	wants("", 0, api.ErrShort)
	wants("a[b", 1, api.ErrFormat) // example 1
	wants("aB", 1, api.ErrByte)    // example 1
	wants("[", 0, api.ErrFormat)
	wants("[]", 0, api.ErrFormat)
	wants("[^]", 0, api.ErrFormat)
	wants("[^", 0, api.ErrFormat)
	wants("[]]", 0, api.ErrFormat)
	wants("[a", 0, api.ErrFormat)
	wants("[a-", 0, api.ErrFormat)
	wants("[a-]", 0, api.ErrFormat)
	wants("[a-b", 0, api.ErrFormat)
	wants("[-", 0, api.ErrFormat)
	wants("[--]", 0, api.ErrFormat)
	wants("[--a]", 0, api.ErrFormat)
	wants("[a-c-e]", 0, api.ErrFormat)
	wants("[_-]", 0, api.ErrFormat)
	wants("[+-.]", 0, api.ErrFormat)
	wants("[z-a]", 0, api.ErrFormat)
	wants("[9-0]", 0, api.ErrFormat)
	wants("[0-a]", 0, api.ErrFormat)
	wants("[A-C]", 0, api.ErrFormat)
	wants("[a-C]", 0, api.ErrFormat)
	wants("[?]", 0, api.ErrFormat)
	wants("[*]", 0, api.ErrFormat)
	wants("[a^]", 0, api.ErrFormat)
	wants("[^^]", 0, api.ErrFormat)
	wants("[a,b]", 0, api.ErrFormat)
	wants("[a]]", 3, api.ErrByte)
	wants("]", 0, api.ErrByte)
	wants("^", 0, api.ErrByte)
	wants("!a", 0, api.ErrByte)
	wants("@a", 0, api.ErrByte)
	wants("a,b", 1, api.ErrByte)
	wants(" a", 0, api.ErrByte)
	wants("a\x00", 1, api.ErrByte)
	wants("\xc3\xa9", 0, api.ErrByte)
	wants("A[", 0, api.ErrByte)
	wants("[A", 0, api.ErrFormat)
	wants("[a][b", 3, api.ErrFormat)
	wants(strings.Repeat("a", 79)+"[", 79, api.ErrFormat)
	wants(strings.Repeat("a", 79)+"A", 79, api.ErrByte)
	wants(strings.Repeat("a", 80)+"A", 80, api.ErrLong)
	wants("A"+strings.Repeat("a", 80), 80, api.ErrLong)
}

func TestP13_1String(t *testing.T) {
	for _, s := range []string{"a", "*", "?", "comp.*", "[-a]", "[^-a-z0-9+_.]", "[aa]", "[a-a0-0]", "**", strings.Repeat("*", 80), "[" + strings.Repeat("a", 78) + "]"} {
		if got := compiled(t, s).String(); got != s {
			t.Errorf("the text of %q is %q", s, got)
		}
	}
}

func TestP13_2Examples(t *testing.T) {
	wants := func(s string, name string, want bool) {
		t.Helper()
		if got := compiled(t, s).Match(name); got != want {
			t.Errorf("Match of %q for %q is %t", s, name, got)
		}
	}
	wants("comp.*", "comp.os", true) // example 1
	wants("comp.*", "comp.", true)
	wants("comp.*", "comp", false)
	wants("?[a-c][^0-9]", "xbz", true)
	wants("?[a-c][^0-9]", "xb7", false)
	wants("*", "", true)
	wants("?", "", false)
	wants("a", "", false)
	wants("a", "a", true)
	wants("a", "A", false)
	wants("a.b", "axb", false)
	wants("a+", "aa", false)
	wants("a+", "a+", true)
	wants("*", "a b", false)
	wants("?", "A", false)
	wants("[^a]", "A", false)
	wants("[^a]", ",", false)
	wants("*b", "a*b", false)
	wants("[-]", "-", true)
	wants("[^-]", "-", false)
	wants("[^-]", "a", true)
	wants("[-a-c]", "b", true)
	wants("[-a-c]", "-", true)
	wants("[a-cx0-1]", "d", false)
	wants("[a-cx0-1]", "x", true)
	wants("[a-cx0-1]", "1", true)
	wants("[a-cx0-1]", "2", false)
	wants("[a-a]", "a", true)
	wants("[a-a]", "b", false)
	wants("*.bin*", "alt.bin", true)
	wants("*.bin*", "alt.binaries", true)
	wants("*.bin*", "alt.bi", false)
}

// TestP13_2Classes has every byte as a name for many classes.
func TestP13_2Classes(t *testing.T) {
	var bytes []string
	for c := range 256 {
		bytes = append(bytes, string([]byte{byte(c)}))
	}
	for _, items := range textsOf(3, "a-c", "d", "0-9", "8", "z", "+", "_", ".", "x-z", "0-0") {
		for _, begin := range []string{"[", "[^", "[-", "[^-"} {
			if s := begin + items + "]"; s != "[]" && s != "[^]" {
				checkMatch(t, s, bytes)
			}
		}
	}
	for _, s := range strings.Split("? * ?* *? ** [a-z] [0-9] [^a-z] [^0-9] [^-+_.] [^-a-z0-9+_.] [-a-z0-9+_.]", " ") {
		checkMatch(t, s, bytes)
	}
	for i := range len(nameCharacters) {
		c := nameCharacters[i : i+1]
		checkMatch(t, c, bytes)
		checkMatch(t, "["+c+"]", bytes)
		checkMatch(t, "[^"+c+"]", bytes)
		for j := i; j < len(nameCharacters); j++ {
			for _, class := range []string{"[" + c + "-" + nameCharacters[j:j+1] + "]", "[^" + c + "-" + nameCharacters[j:j+1] + "]"} {
				if classAt(class) == class {
					checkMatch(t, class, bytes)
				}
			}
		}
	}
}

// TestP13_2Short has all short patterns with all short names.
func TestP13_2Short(t *testing.T) {
	names := textsOf(6, "a", "b", "-")
	names = append(names, "A", "aA", "Aa", "a a", "\x00", "a\xff", "ab,", "*", "?", "[a]", "a\n", "\n", "\xc3\xa9")
	matched := 0
	for _, s := range textsOf(5, "a", "b", "*", "?", "[^a]")[1:] {
		matched += checkMatch(t, s, names)
	}
	if matched < 10000 {
		t.Errorf("only %d names match", matched)
	}
}

// randomPattern returns a pattern with few different characters.
func randomPattern(random *rand.Rand, most int) string {
	s := ""
	for range 1 + random.Intn(most) {
		s += []string{"a", "b", "*", "*", "?", "[ab]", "[^a]", "[b-d]", "[^-+.]", "."}[random.Intn(10)]
	}
	return s
}

// TestP13_2Random has long patterns with long names, most of which are made from the pattern.
func TestP13_2Random(t *testing.T) {
	random := rand.New(rand.NewSource(132))
	word := func(most int) string {
		s := ""
		for range random.Intn(most + 1) {
			s += "aabbcd.-+"[random.Intn(9):][:1]
		}
		return s
	}
	matched, all := 0, 0
	for range 3000 {
		s := randomPattern(random, 14)
		l, _, _ := elements(s)
		var names []string
		for range 20 {
			name := ""
			for _, element := range l {
				switch {
				case element == "*":
					name += word(6)
				case len(element) > 1 || element == "?":
					name += "abcd"[random.Intn(4):][:1]
				default:
					name += element
				}
			}
			names = append(names, name, word(10))
		}
		matched += checkMatch(t, s, names)
		all += len(names)
	}
	if matched < all/10 || matched > all*9/10 {
		t.Errorf("%d of %d names match", matched, all)
	}
}

// TestP13_2Long has names that are much longer than those of groups.
func TestP13_2Long(t *testing.T) {
	long := strings.Repeat("a", 1<<20)
	wants := func(s, name string, want bool) {
		t.Helper()
		if got := compiled(t, s).Match(name); got != want {
			t.Errorf("Match of %q for a name of %d bytes is %t", s, len(name), got)
		}
	}
	wants("*", long, true)
	wants("*", long+"A", false)
	wants("*a", "A"+long, false)
	wants("*b", long, false)
	wants("*aaaaaaaaaab", long+"b", true)
	wants("*aaaaaaaaaab*", long, false)
	wants("a*a*a*a*a*a*a*a*b", long, false)
	wants("a*a*a*a*a*a*a*a*b", long+"b", true)
	wants(strings.Repeat("*a", 40), long, true)
	wants(strings.Repeat("*a", 39)+"*b", long, false)
	wants(strings.Repeat("?", 80), long, false)
	wants(strings.Repeat("?", 80), long[:80], true)
	wants(strings.Repeat("?", 80), long[:79], false)
	wants(strings.Repeat("?", 79)+"*", long, true)
}

func TestP13_2Empty(t *testing.T) {
	for s, want := range map[string]bool{
		"[^-a-z0-9+_.]": true, // example 2
		"[^-a-z0-9+_]":  false, "[^a-z0-9+_.]": false, "[^-a-y0-9+_.]": false, "[^-a-z1-9+_.]": false, "[^-a-z0-9_.]": false, "[^-a-z0-9+.]": false,
		"a[^-a-z0-9+_.]": true, "[^-a-z0-9+_.]a": true, "*[^-a-z0-9+_.]*": true, "[^-a-mn-z0-9+_.]": true, "[^-._+9876543210a-z]": true,
		"[-a-z0-9+_.]": false, "a": false, "*": false, "?": false, "**": false, "[a]": false, "[^a]": false, "a*b?": false,
	} {
		p := compiled(t, s)
		if got := p.Empty(); got != want {
			t.Errorf("Empty of %q is %t", s, got)
		}
		for _, name := range textsOf(3, "a", "-", ".", "b") {
			if want && p.Match(name) {
				t.Errorf("%q matches %q", s, name)
			}
		}
	}
}

// TestP13_2EmptyClasses compares Empty with the classes, for all that leave out parts of the name characters.
func TestP13_2EmptyClasses(t *testing.T) {
	parts := []string{"-", "a-m", "n-z", "0-9", "+", "_", "."}
	for chosen := range 1 << len(parts) {
		items := ""
		for i, part := range parts {
			if chosen&(1<<i) != 0 {
				items += part
			}
		}
		if items == "" {
			continue
		}
		p := compiled(t, "x*[^"+items+"]")
		if want := chosen == 1<<len(parts)-1; p.Empty() != want {
			t.Errorf("Empty of %q is %t", p.String(), p.Empty())
		}
		if compiled(t, "["+items+"]").Empty() {
			t.Errorf("[%s] is empty", items)
		}
	}
}

func TestP13_5NilPattern(t *testing.T) {
	var p *wildmat.Pattern
	if p.String() != "" || !p.Empty() {
		t.Errorf("a nil pattern has the text %q, and Empty is %t", p.String(), p.Empty())
	}
	for _, name := range []string{"", "a", "comp.os", "A"} {
		if p.Match(name) {
			t.Errorf("a nil pattern matches %q", name)
		}
	}
	for _, s := range []string{"*", "a", "?", "[^-a-z0-9+_.]"} {
		q := compiled(t, s)
		if common, ok := wildmat.Common(p, q); common != "" || ok {
			t.Errorf("Common of nil and %q = %q, %t", s, common, ok)
		}
		if common, ok := wildmat.Common(q, p); common != "" || ok {
			t.Errorf("Common of %q and nil = %q, %t", s, common, ok)
		}
	}
	if common, ok := wildmat.Common(p, p); common != "" || ok {
		t.Errorf("Common of nil and nil = %q, %t", common, ok)
	}
}

// TestP13_6Plain has patterns without * ? and classes.
func TestP13_6Plain(t *testing.T) {
	texts := textsOf(4, "a", "b", ".", "-", "+", "0", "_")[1:]
	for i, s := range texts {
		p := compiled(t, s)
		if !p.Match(s) || p.Empty() {
			t.Fatalf("%q does not match itself", s)
		}
		for _, name := range []string{texts[(i+1)%len(texts)], s + "a", s[1:], s[:len(s)-1], "a" + s, "", strings.ToUpper(s) + "A"} {
			if name != s && p.Match(name) {
				t.Fatalf("%q matches %q", s, name)
			}
		}
	}
}

// TestP13_6Retained checks that patterns and results keep no memory of the arguments.
func TestP13_6Retained(t *testing.T) {
	b := []byte("comp.[a-c]?*")
	p := compiled(t, unsafe.String(&b[0], len(b)))
	text := p.String()
	clear(b)
	if p.String() != "comp.[a-c]?*" || text != "comp.[a-c]?*" {
		t.Errorf("the text is %q and %q", p.String(), text)
	}
	if !p.Match("comp.bx") || p.Match("comp.dx") {
		t.Error("the pattern has changed")
	}
	common, _ := wildmat.Common(p, compiled(t, "*z"))
	if common != "comp.az" {
		t.Errorf("the common string is %q", common)
	}
}

// TestP13_6Repeated checks that patterns are not changed by their use.
func TestP13_6Repeated(t *testing.T) {
	p, q := compiled(t, "a*[b-d]?"), compiled(t, "*[^b]x")
	for range 3 {
		if !p.Match("abx") || p.Match("axx") || p.Empty() || !slices.Equal([]bool{q.Match("ax"), q.Match("bx")}, []bool{true, false}) {
			t.Fatal("the results have changed")
		}
		if s, ok := wildmat.Common(p, q); s != "acx" || !ok {
			t.Fatalf("Common = %q, %t", s, ok)
		}
	}
}
