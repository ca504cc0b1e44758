package wildmat_test

import (
	"math/bits"
	"math/rand"
	"regexp"
	"slices"
	"strconv"
	"strings"
	"testing"

	"bulletin/wildmat"
)

// checkCommon compares Common with a result, in both orders.
func checkCommon(t *testing.T, a, b string, want string, wanted bool) {
	t.Helper()
	p, q := compiled(t, a), compiled(t, b)
	if s, ok := wildmat.Common(p, q); s != want || ok != wanted {
		t.Fatalf("Common of %q and %q = %q, %t, want %q, %t", a, b, s, ok, want, wanted)
	}
	if s, ok := wildmat.Common(q, p); s != want || ok != wanted {
		t.Fatalf("Common of %q and %q = %q, %t, want %q, %t", b, a, s, ok, want, wanted)
	}
	if wanted && (!p.Match(want) || !q.Match(want)) {
		t.Fatalf("%q is not matched by both %q and %q", want, a, b)
	}
}

func TestP13_2CommonExamples(t *testing.T) {
	checkCommon(t, "comp.*", "*.os", "comp.os", true) // example 2
	checkCommon(t, "a*", "*b", "ab", true)
	checkCommon(t, "a?", "b?", "", false)
	checkCommon(t, "*", "*", "", true)
	checkCommon(t, "**", "***", "", true)
	checkCommon(t, "*", "?", "+", true)
	checkCommon(t, "?", "??", "", false)
	checkCommon(t, "?*", "??*", "++", true)
	checkCommon(t, "*", "abc", "abc", true)
	checkCommon(t, "abc", "abc", "abc", true)
	checkCommon(t, "abc", "abcd", "", false)
	checkCommon(t, "*a*", "*b*", "ab", true)
	checkCommon(t, "*b*", "*a*", "ab", true)
	checkCommon(t, "*ab*", "*ba*", "aba", true)
	checkCommon(t, "*ab", "*ba", "", false)
	checkCommon(t, "*ab*", "ba*", "bab", true)
	checkCommon(t, "a*c", "*b*", "abc", true)
	checkCommon(t, "[b-d]*", "*[^b]", "c", true)
	checkCommon(t, "[^-a-z0-9+_.]", "*", "", false)
	checkCommon(t, "[^-a-z0-9+_.]", "[^-a-z0-9+_.]", "", false)
	checkCommon(t, "*[^-a-z0-9+_.]*", "*", "", false)
	checkCommon(t, "[a-m]", "[n-z]", "", false)
	checkCommon(t, "[a-m]", "[m-z]", "m", true)
	checkCommon(t, "*.bin", "alt.*", "alt.bin", true)
	checkCommon(t, "*.bin.*", "alt.*", "alt.bin.", true)
}

// TestP13_2CommonCharacters has classes of all pairs of name characters.
func TestP13_2CommonCharacters(t *testing.T) {
	var all []string
	for i := range len(nameCharacters) {
		all = append(all, nameCharacters[i:i+1])
	}
	leave := func(c, d string) string { // the class that leaves out two characters
		items := strings.TrimPrefix(c+d, "-")
		if c == "-" || d == "-" {
			return "[^-" + strings.ReplaceAll(items, "-", "") + "]"
		}
		return "[^" + items + "]"
	}
	for i, c := range all {
		for j, d := range all {
			if i < j {
				class := strings.ReplaceAll("["+d+c+"]", "[a-", "[-a")
				if strings.HasSuffix(class, "-]") {
					class = "[-" + strings.TrimSuffix(class[1:], "-]") + "]"
				}
				checkCommon(t, class, "?", c, true)
				checkCommon(t, class, class+"*", c, true)
				checkCommon(t, class, leave(c, c), d, true)
				checkCommon(t, class, leave(d, d), c, true)
				checkCommon(t, class, leave(c, d), "", false)
				checkCommon(t, c, d, "", false)
			}
			smallest := all[0]
			for _, x := range all {
				if x != c && x != d {
					smallest = x
					break
				}
			}
			checkCommon(t, leave(c, d), "?", smallest, true)
			checkCommon(t, leave(c, c), leave(d, d)+"*", smallest, true)
		}
	}
}

// TestP13_2CommonShort has all pairs of short patterns of elements whose common characters are among five, and all strings of these.
func TestP13_2CommonShort(t *testing.T) {
	names := textsOf(6, "+", "-", ".", "a", "b")
	patterns := textsOf(3, "a", "b", "*", "?", "[ab]", "[^+]", "[^-+]", "[^b]")[1:]
	matches := make([][]uint64, len(patterns))
	for i, s := range patterns {
		p := compiled(t, s)
		matches[i] = make([]uint64, len(names)/64+1)
		for n, name := range names { // they are in the order in which Common prefers them
			if p.Match(name) {
				matches[i][n/64] |= 1 << (n % 64)
			}
		}
	}
	has := 0
	for i, s := range patterns {
		for j := range i + 1 {
			want, wanted := "", false
			for n := range matches[i] {
				if both := matches[i][n] & matches[j][n]; both != 0 {
					want, wanted = names[n*64+bits.TrailingZeros64(both)], true
					has++
					break
				}
			}
			checkCommon(t, s, patterns[j], want, wanted)
		}
	}
	if all := len(patterns) * (len(patterns) + 1) / 2; has < all/10 || has > all*9/10 {
		t.Errorf("%d of %d pairs have a common string", has, all)
	}
}

// machine is a pattern with the sets of positions that it can reach.
type machine struct {
	elements []string
	classes  []*regexp.Regexp
}

func newMachine(s string) machine {
	l, _, _ := elements(s)
	m := machine{elements: l}
	for _, element := range l {
		m.classes = append(m.classes, expression(element))
	}
	return m
}

// closed adds the positions behind sequences.
func (m machine) closed(at []bool) []bool {
	for i, element := range m.elements {
		if at[i] && element == "*" {
			at[i+1] = true
		}
	}
	return at
}

// begin returns the positions before any character.
func (m machine) begin() []bool {
	at := make([]bool, len(m.elements)+1)
	at[0] = true
	return m.closed(at)
}

// after returns the positions after another character.
func (m machine) after(at []bool, c string) []bool {
	next := make([]bool, len(at))
	for i, element := range m.elements {
		if at[i] && m.classes[i].MatchString(c) {
			if element == "*" {
				next[i] = true
			} else {
				next[i+1] = true
			}
		}
	}
	return m.closed(next)
}

func key(p, q []bool) string {
	var s strings.Builder
	for _, x := range append(slices.Clone(p), q...) {
		s.WriteString(strconv.FormatBool(x)[:1])
	}
	return s.String()
}

// common finds the common string that comes first in a search through all strings, the shorter ones and the smaller ones first.
func common(a, b string) (string, bool) {
	type state struct {
		p, q []bool
		s    string
	}
	m, n := newMachine(a), newMachine(b)
	queue := []state{{m.begin(), n.begin(), ""}}
	seen := map[string]bool{key(queue[0].p, queue[0].q): true}
	for len(queue) > 0 {
		x := queue[0]
		queue = queue[1:]
		if x.p[len(x.p)-1] && x.q[len(x.q)-1] {
			return x.s, true
		}
		for i := range len(nameCharacters) {
			c := nameCharacters[i : i+1]
			p, q := m.after(x.p, c), n.after(x.q, c)
			if k := key(p, q); slices.Contains(p, true) && slices.Contains(q, true) && !seen[k] {
				seen[k] = true
				queue = append(queue, state{p, q, x.s + c})
			}
		}
	}
	return "", false
}

// TestP13_2CommonRandom compares Common with the search.
func TestP13_2CommonRandom(t *testing.T) {
	random := rand.New(rand.NewSource(133))
	has, lengths := 0, map[int]int{}
	for range 700 {
		a, b := randomPattern(random, 7), randomPattern(random, 7)
		want, wanted := common(a, b)
		checkCommon(t, a, b, want, wanted)
		if wanted {
			has++
			lengths[len(want)]++
		}
	}
	if has < 100 || has > 600 || len(lengths) < 6 {
		t.Errorf("%d pairs have common strings, of the lengths %v", has, lengths)
	}
}

// TestP13_2CommonLong has patterns of the maximum length.
func TestP13_2CommonLong(t *testing.T) {
	a, b := strings.Repeat("a", 79), strings.Repeat("b", 79)
	checkCommon(t, a+"*", "*"+b, a+b, true)
	checkCommon(t, a+"*", "*"+a, a, true)
	checkCommon(t, a+"a", strings.Repeat("?", 80), a+"a", true)
	checkCommon(t, a+"a", a+"*", a+"a", true)
	checkCommon(t, a+"a", b+"b", "", false)
	checkCommon(t, strings.Repeat("*", 80), strings.Repeat("*", 80), "", true)
	checkCommon(t, strings.Repeat("?", 80), strings.Repeat("?", 79)+"*", strings.Repeat("+", 80), true)
	checkCommon(t, strings.Repeat("?", 80), strings.Repeat("?", 79), "", false)
	checkCommon(t, strings.Repeat("*a", 40), strings.Repeat("*a", 40), a[:40], true)
	checkCommon(t, strings.Repeat("*a", 40), strings.Repeat("b*", 40), "b"+a[:39]+b[:39]+"a", true)
	checkCommon(t, strings.Repeat("a*", 40), strings.Repeat("b*", 40), "", false)
	checkCommon(t, "*"+strings.Repeat("ab", 39), "*"+strings.Repeat("ba", 39), "", false)
	checkCommon(t, "*"+strings.Repeat("ab", 39)+"*", "*"+strings.Repeat("ba", 39), strings.Repeat("ab", 39)+"a", true)
}

// TestP13_6Common compares Common with all strings of up to six characters that two patterns match.
func TestP13_6Common(t *testing.T) {
	random := rand.New(rand.NewSource(136))
	names := textsOf(6, "+", "a", "b", "c")
	for range 300 {
		a, b := randomPattern(random, 5), randomPattern(random, 5)
		p, q := compiled(t, a), compiled(t, b)
		s, ok := wildmat.Common(p, q)
		for _, name := range names {
			if !p.Match(name) || !q.Match(name) {
				continue
			}
			if !ok || len(name) < len(s) || len(name) == len(s) && name < s {
				t.Fatalf("Common of %q and %q = %q, %t, but both match %q", a, b, s, ok, name)
			}
		}
	}
}
