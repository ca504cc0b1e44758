package groupname_test

import (
	"maps"
	"math/rand"
	"slices"
	"strconv"
	"strings"
	"testing"
	"unsafe"

	"bulletin/api"
	"bulletin/groupname"
)

// checkList is the error of a list of names by the words of the chapter.
func checkList(l []string) api.Errno {
	if len(l) == 0 {
		return api.ErrShort
	}
	if len(l) > 20 {
		return api.ErrLimit
	}
	seen := map[string]bool{}
	for _, name := range l {
		if e := check(name); e != api.OK {
			return e
		}
		if seen[name] {
			return api.ErrDuplicate
		}
		seen[name] = true
	}
	return api.OK
}

// checkParseList compares ParseList with the model.
func checkParseList(t *testing.T, s string) api.Errno {
	t.Helper()
	var parts []string
	if s != "" {
		parts = strings.Split(s, ",")
	}
	want := checkList(parts)
	if want != api.OK {
		parts = nil
	}
	if l, e := groupname.ParseList(s); e != want || !slices.Equal(l, parts) {
		t.Fatalf("ParseList(%.200q) = %q, %d, want %q, %d", s, l, e, parts, want)
	}
	return want
}

// checkFormatList compares FormatList with the model, and ParseList for the text.
func checkFormatList(t *testing.T, l []string) api.Errno {
	t.Helper()
	want, text := checkList(l), ""
	if want == api.OK {
		text = strings.Join(l, ",")
	}
	if s, e := groupname.FormatList(l); e != want || s != text {
		t.Fatalf("FormatList(%.200q) = %q, %d, want %q, %d", l, s, e, text, want)
	}
	checkParseList(t, strings.Join(l, ","))
	return want
}

// TestP12_4Texts has all short texts of names, commas and other bytes.
func TestP12_4Texts(t *testing.T) {
	errors := map[api.Errno]int{}
	for _, s := range textsOf(6, "a", "b.c", ",", ".", "X", " ") {
		errors[checkParseList(t, s)]++
	}
	for _, e := range []api.Errno{api.OK, api.ErrName, api.ErrDuplicate} {
		if errors[e] < 50 {
			t.Errorf("the errors are %v", errors)
		}
	}
}

// numbered returns n different names, not in order.
func numbered(n int) []string {
	var l []string
	for i := range n {
		l = append(l, "g"+strconv.Itoa(i*10007%n)+".x")
	}
	return l
}

// TestP12_4Numbers has lists of up to 25 names, correct ones and others.
func TestP12_4Numbers(t *testing.T) {
	for n := range 26 {
		l := numbered(n)
		want := api.OK
		if n == 0 {
			want = api.ErrShort
		} else if n > 20 {
			want = api.ErrLimit
		}
		if e := checkFormatList(t, l); e != want {
			t.Errorf("%d names: %d", n, e)
		}
		for i := range l {
			for _, s := range []string{"", "A", "a.b.c.d.e.f.g.h.i.j.k", strings.Repeat("a", 81), l[0], l[n-1], "a,b", "a b"} {
				changed := slices.Clone(l)
				changed[i] = s
				checkFormatList(t, changed)
			}
		}
	}
}

// TestP12_4Errors has lists to which several errors apply.
func TestP12_4Errors(t *testing.T) {
	wants := func(want api.Errno, l ...string) {
		t.Helper()
		if e := checkFormatList(t, l); e != want {
			t.Errorf("FormatList(%.200q): %d, want %d", l, e, want)
		}
	}
	long, deep := strings.Repeat("a", 81), "a.b.c.d.e.f.g.h.i.j.k"
	wants(api.ErrShort)
	wants(api.ErrName, "")
	wants(api.OK, "a.b", "c", "a")
	wants(api.ErrDuplicate, "a", "a", "B")
	wants(api.ErrName, "a", "B", "a")
	wants(api.ErrName, "a", "B", long)
	wants(api.ErrLong, "a", long, "B")
	wants(api.ErrLimit, deep, "a", "a", "B")
	wants(api.ErrDuplicate, "a", "b", "c", "a")
	wants(api.ErrName, "A", "A") // not a name comes before occurred earlier
	wants(api.ErrLimit, slices.Repeat([]string{"B"}, 21)...)
	wants(api.ErrLimit, slices.Repeat([]string{"a"}, 21)...)
	wants(api.ErrDuplicate, slices.Repeat([]string{"a"}, 20)...)
	wants(api.ErrLimit, slices.Repeat([]string{""}, 21)...)
	wants(api.ErrName, slices.Repeat([]string{""}, 20)...)
	wants(api.ErrLimit, slices.Repeat([]string{"a"}, 100000)...)
	wants(api.ErrName, "a,b")
	if e := checkParseList(t, ""); e != api.ErrShort {
		t.Errorf("ParseList of nothing: %d", e)
	}
	if e := checkParseList(t, strings.Repeat(",", 1<<20)); e != api.ErrLimit {
		t.Errorf("ParseList of commas: %d", e)
	}
	for _, s := range []string{",", "a,", ",a", "a,,b", "a ,b", "a, b", " a", "a\n"} {
		if e := checkParseList(t, s); e != api.ErrName {
			t.Errorf("ParseList(%q): %d", s, e)
		}
	}
}

// sorted is what Sort returns by the words of the chapter.
func sorted(l []string) ([]string, api.Errno) {
	if len(l) > 4096 {
		return nil, api.ErrLimit
	}
	different := map[string]bool{}
	for _, name := range l {
		if e := check(name); e != api.OK {
			return nil, e
		}
		different[name] = true
	}
	return slices.SortedFunc(maps.Keys(different), compare), api.OK
}

// checkSort compares Sort with the model.
func checkSort(t *testing.T, l []string) api.Errno {
	t.Helper()
	want, wanted := sorted(l)
	if got, e := groupname.Sort(l); e != wanted || !slices.Equal(got, want) {
		t.Fatalf("Sort(%.200q) = %.200q, %d, want %.200q, %d", l, got, e, want, wanted)
	}
	return wanted
}

// children is what Children returns by the words of the chapter.
func children(l []string, hierarchy string) ([]string, api.Errno) {
	if hierarchy != "" {
		if e := check(hierarchy); e != api.OK {
			return nil, e
		}
	}
	if _, e := sorted(l); e != api.OK {
		return nil, e
	}
	different := map[string]bool{}
	for _, name := range l {
		if hierarchy == "" {
			different[strings.Split(name, ".")[0]] = true
		} else if belongs(name, hierarchy) && name != hierarchy {
			different[strings.Split(name, ".")[strings.Count(hierarchy, ".")+1]] = true
		}
	}
	return slices.Sorted(maps.Keys(different)), api.OK
}

// checkChildren compares Children with the model.
func checkChildren(t *testing.T, l []string, hierarchy string) api.Errno {
	t.Helper()
	want, wanted := children(l, hierarchy)
	if got, e := groupname.Children(l, hierarchy); e != wanted || !slices.Equal(got, want) {
		t.Fatalf("Children(%.200q, %q) = %.200q, %d, want %.200q, %d", l, hierarchy, got, e, want, wanted)
	}
	return wanted
}

// counted is a hierarchy with the number of names that belong to it.
type counted struct {
	hierarchy string
	names     int
}

// walk is what Walk yields by the words of the chapter.
func walk(l []string) []counted {
	names, _ := sorted(l)
	counts := map[string]int{}
	for _, name := range names {
		parts := strings.Split(name, ".")
		for n := range parts {
			counts[strings.Join(parts[:n+1], ".")]++
		}
	}
	var all []counted
	for _, hierarchy := range slices.SortedFunc(maps.Keys(counts), compare) {
		all = append(all, counted{hierarchy, counts[hierarchy]})
	}
	return all
}

// walked is what Walk yields.
func walked(l []string) []counted {
	var all []counted
	for hierarchy, names := range groupname.Walk(l) {
		all = append(all, counted{hierarchy, names})
	}
	return all
}

// checkWalk compares Walk with the model.
func checkWalk(t *testing.T, l []string) {
	t.Helper()
	if got, want := walked(l), walk(l); !slices.Equal(got, want) {
		t.Fatalf("Walk(%.200q) yields %.200v, want %.200v", l, got, want)
	}
}

// randomNames returns up to n names with few different components.
func randomNames(random *rand.Rand, n int) []string {
	var l []string
	for range random.Intn(n + 1) {
		var parts []string
		for range 1 + random.Intn(4) {
			parts = append(parts, []string{"a", "b", "a-", "a-b", "a+", "a0", "a_", "ab"}[random.Intn(8)])
		}
		l = append(l, strings.Join(parts, "."))
	}
	return l
}

// TestP12_5Random has lists of names with few different components, for Sort, Children and Walk.
func TestP12_5Random(t *testing.T) {
	random := rand.New(rand.NewSource(125))
	for range 3000 {
		l := randomNames(random, 20)
		if random.Intn(20) == 0 {
			l = append(l, "A", "b.")
		}
		checkSort(t, l)
		checkWalk(t, l)
		for _, hierarchy := range []string{"", "a", "a.b", "a.a-", "a-", "b.a.a", "c", "a.", "A"} {
			checkChildren(t, l, hierarchy)
		}
	}
}

// TestP12_5Pairs sorts all pairs and some triples of names.
func TestP12_5Pairs(t *testing.T) {
	names := []string{"a", "a.b", "a.b.c", "a.bc", "a-b", "a-b.c", "a+b", "a0", "ab", "b", "comp.lang.misc", "comp.lang-a"}
	for _, a := range names {
		checkSort(t, []string{a})
		for _, b := range names {
			checkSort(t, []string{a, b})
			checkSort(t, []string{a, b, a})
			for _, c := range names {
				checkSort(t, []string{a, b, c})
				checkWalk(t, []string{a, b, c})
				checkChildren(t, []string{a, b, c}, "a")
			}
		}
	}
}

func TestP12_5Errors(t *testing.T) {
	wants := func(want api.Errno, l ...string) {
		t.Helper()
		if e := checkSort(t, l); e != want {
			t.Errorf("Sort(%.200q): %d, want %d", l, e, want)
		}
		if e := checkChildren(t, l, ""); e != want {
			t.Errorf("Children(%.200q): %d, want %d", l, e, want)
		}
		checkWalk(t, l)
		if want != api.OK && len(walked(l)) > 0 {
			t.Errorf("Walk(%.200q) yields something", l)
		}
	}
	long, deep := strings.Repeat("a", 81), "a.b.c.d.e.f.g.h.i.j.k"
	wants(api.OK)
	wants(api.OK, "b", "a", "b")
	wants(api.ErrName, "")
	wants(api.ErrName, "a", "B", long, deep)
	wants(api.ErrLong, "a", long, "B", deep)
	wants(api.ErrLimit, "a", deep, long, "B")
	wants(api.OK, numbered(4096)...)
	wants(api.ErrLimit, numbered(4097)...)
	wants(api.OK, slices.Repeat([]string{"b", "a"}, 2048)...)
	wants(api.ErrLimit, slices.Repeat([]string{"a"}, 4097)...)
	wants(api.ErrLimit, append([]string{"B"}, numbered(4096)...)...)
	wants(api.ErrName, append(numbered(4095), "B")...)
}

func TestP12_6Children(t *testing.T) {
	l := []string{"a.b", "c", "a.b.c", "a-b.x", "a", "a.b-.y", "a.b+", "a.b.c", "a.ab.b", "ab.x"}
	wants := func(hierarchy string, want ...string) {
		t.Helper()
		if got, e := groupname.Children(l, hierarchy); e != api.OK || !slices.Equal(got, want) {
			t.Errorf("Children(%q) = %q, %d, want %q", hierarchy, got, e, want)
		}
		checkChildren(t, l, hierarchy)
	}
	wants("", "a", "a-b", "ab", "c")
	wants("a", "ab", "b", "b+", "b-")
	wants("a.b", "c")
	wants("a.b.c")
	wants("a-b", "x")
	wants("a.b-", "y")
	wants("a-")
	wants("c")
	wants("d")
	wants("x")
	wants("b")
	example := []string{"a.b", "a.c.d"} // example 2
	if got, e := groupname.Children(example, "a"); e != api.OK || !slices.Equal(got, []string{"b", "c"}) {
		t.Errorf("Children = %q, %d", got, e)
	}
	if got, e := groupname.Children(nil, ""); e != api.OK || len(got) != 0 {
		t.Errorf("Children of nothing = %q, %d", got, e)
	}
}

func TestP12_6Errors(t *testing.T) {
	long, deep := strings.Repeat("a", 81), "a.b.c.d.e.f.g.h.i.j.k"
	for _, l := range [][]string{nil, {"a.b"}, {"B"}, {long}, {deep}, numbered(4097)} {
		for hierarchy, want := range map[string]api.Errno{"A": api.ErrName, ".": api.ErrName, "a.": api.ErrName, " ": api.ErrName, long: api.ErrLong, deep: api.ErrLimit} {
			if e := checkChildren(t, l, hierarchy); e != want {
				t.Errorf("Children of %.50q for %q: %d", l, hierarchy, e)
			}
		}
	}
	for e, l := range map[api.Errno][]string{api.ErrName: {"a.b", "B", long}, api.ErrLong: {long, "a.b"}, api.ErrLimit: numbered(4097)} {
		if got := checkChildren(t, l, "a"); got != e {
			t.Errorf("Children of %.50q: %d", l, got)
		}
	}
}

func TestP12_7Walk(t *testing.T) {
	wants := func(l []string, want ...counted) {
		t.Helper()
		if got := walked(l); !slices.Equal(got, want) {
			t.Errorf("Walk(%q) yields %v, want %v", l, got, want)
		}
	}
	wants(nil)
	wants([]string{"a.b", "a.c.d"}, counted{"a", 2}, counted{"a.b", 1}, counted{"a.c", 1}, counted{"a.c.d", 1}) // example 2
	wants([]string{"a"}, counted{"a", 1})
	wants([]string{"a.c", "a", "a.c", "a"}, counted{"a", 2}, counted{"a.c", 1})
	wants([]string{"a-b", "ab.c", "a.b"}, counted{"a", 1}, counted{"a.b", 1}, counted{"a-b", 1}, counted{"ab", 1}, counted{"ab.c", 1})
	wants([]string{"b.a", "a.b", "b"}, counted{"a", 1}, counted{"a.b", 1}, counted{"b", 2}, counted{"b.a", 1})
	wants([]string{"a", "a.B"})
	deep := "a.b.c.d.e.f.g.h.i.j"
	if got := walked([]string{deep}); len(got) != 10 || got[9] != (counted{deep, 1}) {
		t.Errorf("Walk(%q) yields %v", deep, got)
	}
}

// TestP12_7Stops checks that nothing is yielded after the consumer has stopped, and that the iteration can be repeated.
func TestP12_7Stops(t *testing.T) {
	l := []string{"a.b", "a.c.d", "b", "a"}
	iterate := groupname.Walk(l)
	all := walk(l)
	for stop := range all {
		calls := 0
		iterate(func(hierarchy string, names int) bool {
			if calls > stop || all[calls] != (counted{hierarchy, names}) {
				t.Fatalf("the call %d of yield, which returns false for %d, has %q, %d", calls, stop, hierarchy, names)
			}
			calls++
			return calls <= stop
		})
		if calls != stop+1 {
			t.Errorf("%d calls of yield, which returns false for %d", calls, stop)
		}
	}
	for range 2 {
		n := 0
		for range iterate {
			n++
		}
		if n != len(all) {
			t.Errorf("%d hierarchies, want %d", n, len(all))
		}
	}
}

// TestP12_8Inverse checks that Split and Join are inverse to each other, and ParseList and FormatList.
func TestP12_8Inverse(t *testing.T) {
	random := rand.New(rand.NewSource(128))
	for range 2000 {
		names, _ := groupname.Sort(randomNames(random, 15))
		random.Shuffle(len(names), func(i, j int) { names[i], names[j] = names[j], names[i] })
		for _, name := range names {
			l, e := groupname.Split(name)
			if again, f := groupname.Join(l); again != name || e != api.OK || f != api.OK {
				t.Fatalf("Join of Split of %q = %q, %d, %d", name, again, e, f)
			}
			if again, _ := groupname.Split(name); !slices.Equal(again, l) {
				t.Fatalf("Split(%q) = %q", name, again)
			}
		}
		if len(names) == 0 {
			continue
		}
		s, e := groupname.FormatList(names)
		l, f := groupname.ParseList(s)
		if !slices.Equal(l, names) || e != api.OK || f != api.OK {
			t.Fatalf("ParseList of FormatList of %q = %q, %d, %d", names, l, e, f)
		}
		if again, _ := groupname.FormatList(l); again != s {
			t.Fatalf("FormatList of ParseList of %q = %q", s, again)
		}
	}
}

// TestP12_8Hierarchies checks that the names of a hierarchy are adjacent after it, and that the numbers of its children sum up.
func TestP12_8Hierarchies(t *testing.T) {
	random := rand.New(rand.NewSource(129))
	for range 500 {
		l := randomNames(random, 30)
		names, _ := groupname.Sort(l)
		all := walked(l)
		for at, one := range all {
			below, sum := 0, 0
			for i, other := range all {
				if groupname.Within(other.hierarchy, one.hierarchy) {
					if i != at+below {
						t.Fatalf("what belongs to %q is not adjacent after it: %v", one.hierarchy, all)
					}
					below++
				}
				if parent, _ := groupname.Parent(other.hierarchy); parent == one.hierarchy {
					sum += other.names
				}
			}
			if slices.Contains(names, one.hierarchy) {
				sum++
			}
			if sum != one.names {
				t.Fatalf("the number of %q is %d, want %d", one.hierarchy, one.names, sum)
			}
		}
	}
}

// TestP12_8Arguments checks that lists are not modified, nor what follows them in memory, and that results are new.
func TestP12_8Arguments(t *testing.T) {
	fresh := func() []string { return []string{"b.x", "a", "b.x", "a.c", "c", "d", "e", "b"} }
	whole := fresh()
	l := whole[:4]
	names, _ := groupname.Sort(l)
	children, _ := groupname.Children(l, "")
	iterate := groupname.Walk(l)
	groupname.Join(l[1:2])
	groupname.Join(whole[4:6])
	groupname.FormatList(whole[1:3])
	groupname.FormatList(whole[4:7])
	names = append(names, "z")
	children[0] = "z"
	for range iterate {
	}
	if !slices.Equal(whole, fresh()) {
		t.Errorf("an argument was changed: %q", whole)
	}
	names[0] = "changed"
	if whole[1] != "a" {
		t.Error("a result shares memory with an argument")
	}
	parts, _ := groupname.Split("a.b")
	parts[0] = "changed"
	if again, _ := groupname.Split("a.b"); !slices.Equal(again, []string{"a", "b"}) {
		t.Errorf("Split after a change of an earlier result: %q", again)
	}
}

// TestP12_8Retained changes arguments after the calls: what was returned stays as it is.
func TestP12_8Retained(t *testing.T) {
	memory := []byte("ab.cd.ef")
	name := unsafe.String(&memory[0], len(memory))
	other := strings.Clone(name[:2])
	split, _ := groupname.Split(name)
	join, _ := groupname.Join([]string{name[:2]})
	parent, _ := groupname.Parent(name)
	parentOfTwo, _ := groupname.Parent(name[:5])
	common, _ := groupname.Common(name, name)
	commonOfOne, _ := groupname.Common(name[:2], other)
	parsed, _ := groupname.ParseList(name)
	formatted, _ := groupname.FormatList([]string{name})
	names, _ := groupname.Sort([]string{name})
	first, _ := groupname.Children([]string{name}, "")
	last, _ := groupname.Children([]string{name}, "ab.cd")
	var hierarchies []string
	for hierarchy := range groupname.Walk([]string{name}) {
		hierarchies = append(hierarchies, hierarchy)
	}
	clear(memory)
	check := func(function, want string, got ...string) {
		if text := strings.Join(got, "|"); text != want {
			t.Errorf("%s: the result has become %q", function, text)
		}
	}
	check("Split", "ab|cd|ef", split...)
	check("Join", "ab", join)
	check("Parent", "ab.cd", parent)
	check("Parent of two components", "ab", parentOfTwo)
	check("Common", "ab.cd.ef", common)
	check("Common of one component", "ab", commonOfOne)
	check("ParseList", "ab.cd.ef", parsed...)
	check("FormatList", "ab.cd.ef", formatted)
	check("Sort", "ab.cd.ef", names...)
	check("Children", "ab", first...)
	check("Children below", "ef", last...)
	check("Walk", "ab|ab.cd|ab.cd.ef", hierarchies...)
}
