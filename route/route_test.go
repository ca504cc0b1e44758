package route_test

import (
	"math/rand"
	"slices"
	"strconv"
	"strings"
	"testing"
	"unsafe"

	"bulletin/api"
	"bulletin/msgid"
	"bulletin/route"
)

// This file and trace_test.go have the terms of the chapter once more, in a simpler way.

// parse is what Parse returns by the words of the chapter.
func parse(s string) (route.Route, int, api.Errno) {
	if s == "" {
		return nil, 0, api.OK
	}
	names := strings.Split(s, "!")
	for i, name := range names {
		begin := len(strings.Join(append(slices.Clone(names[:i]), ""), "!"))
		if i == 50 {
			return nil, begin, api.ErrLimit
		}
		if at, e := msgid.Site(name); e != api.OK {
			return nil, begin + at, e
		}
	}
	return names, 0, api.OK
}

// check is what Check returns by the words of the chapter.
func check(r route.Route) api.Errno {
	if len(r) > 50 {
		return api.ErrLimit
	}
	for _, name := range r {
		if _, e := msgid.Site(name); e != api.OK {
			return e
		}
	}
	return api.OK
}

// checkParse compares Parse with the model.
func checkParse(t *testing.T, s string) api.Errno {
	t.Helper()
	want, wantAt, wanted := parse(s)
	r, at, e := route.Parse(s)
	if !slices.Equal(r, want) || at != wantAt || e != wanted {
		t.Fatalf("Parse(%.200q) = %.200q, %d, %d, want %.200q, %d, %d", s, r, at, e, want, wantAt, wanted)
	}
	if e == api.OK && (r.String() != s || r.Check() != api.OK) {
		t.Fatalf("the route of %q has the text %q, and Check is %d", s, r.String(), r.Check())
	}
	return e
}

// checkRoute compares Check and String with the model, and Parse of the text of a valid route with the route.
func checkRoute(t *testing.T, r route.Route) api.Errno {
	t.Helper()
	want := check(r)
	if e := r.Check(); e != want {
		t.Fatalf("Check of %.200q = %d, want %d", r, e, want)
	}
	text := ""
	for i, name := range r {
		if i > 0 {
			text += "!"
		}
		text += name
	}
	if s := r.String(); s != text {
		t.Fatalf("the text of %.200q is %.200q, want %.200q", r, s, text)
	}
	if want == api.OK {
		if again, at, e := route.Parse(text); !slices.Equal(again, r) || at != 0 || e != api.OK {
			t.Fatalf("Parse(%.200q) = %.200q, %d, %d, want %.200q", text, again, at, e, r)
		}
	}
	return want
}

// checkPrepend compares Prepend with the words of the chapter.
func checkPrepend(t *testing.T, r route.Route, site string) api.Errno {
	t.Helper()
	_, wanted := msgid.Site(site)
	if wanted == api.OK {
		wanted = check(r)
	}
	var want route.Route
	if wanted == api.OK {
		want = slices.Concat(route.Route{site}, r)
		want = want[:min(len(want), 50)]
	}
	got, e := r.Prepend(site)
	if !slices.Equal(got, want) || e != wanted {
		t.Fatalf("Prepend(%q) to %.200q = %.200q, %d, want %.200q, %d", site, r, got, e, want, wanted)
	}
	if e == api.OK && got.Check() != api.OK {
		t.Fatalf("Check of %.200q: %d", got, got.Check())
	}
	return e
}

// numbered returns a route of n different names.
func numbered(n int) route.Route {
	var r route.Route
	for i := range n {
		r = append(r, "s"+strconv.Itoa(i))
	}
	return r
}

// routes returns all routes of up to so many names.
func routes(most int, names ...string) []route.Route {
	all, from := []route.Route{nil}, 0
	for range most {
		to := len(all)
		for _, r := range all[from:to] {
			for _, name := range names {
				all = append(all, append(slices.Clone(r), name))
			}
		}
		from = to
	}
	return all
}

// TestP16_1Short has all short texts of bytes that matter.
func TestP16_1Short(t *testing.T) {
	texts, from := []string{""}, 0
	for range 7 {
		to := len(texts)
		for _, s := range texts[from:to] {
			for _, c := range []string{"a", "!", "B", ".", "1"} {
				texts = append(texts, s+c)
			}
		}
		from = to
	}
	errors := map[api.Errno]int{}
	for _, s := range texts {
		errors[checkParse(t, s)]++
	}
	for _, e := range []api.Errno{api.OK, api.ErrShort, api.ErrByte, api.ErrName} {
		if errors[e] < 100 {
			t.Errorf("the errors are %v", errors)
		}
	}
}

// TestP16_1Bytes has every byte at every place of some texts.
func TestP16_1Bytes(t *testing.T) {
	for _, s := range []string{"a", "a!b", "c!b!a", "news.example-1!b2!c", strings.Repeat("x", 30) + "!" + strings.Repeat("y", 30)} {
		for place := range len(s) {
			for c := range 256 {
				changed := []byte(s)
				changed[place] = byte(c)
				checkParse(t, string(changed))
				checkParse(t, s[:place]+string(changed[place:place+1])+s[place:])
			}
			checkParse(t, s[:place])
			checkParse(t, s[place:])
		}
	}
}

// TestP16_1Numbers has texts of up to 55 names, of which one or two are wrong.
func TestP16_1Numbers(t *testing.T) {
	for n := range 56 {
		names := numbered(n)
		want := api.OK
		if n > 50 {
			want = api.ErrLimit
		}
		if e := checkParse(t, names.String()); e != want {
			t.Errorf("Parse of %d names: %d, want %d", n, e, want)
		}
		for i := range names {
			for _, wrong := range []string{"", "B", "b.", "1", "a..", strings.Repeat("x", 31), "s0"} {
				changed := slices.Clone(names)
				changed[i] = wrong
				checkParse(t, changed.String())
				changed[n-1] = "_"
				checkParse(t, changed.String())
			}
		}
	}
}

func TestP16_1Errors(t *testing.T) {
	wants := func(s string, wantAt int, want api.Errno) {
		t.Helper()
		checkParse(t, s)
		if r, at, e := route.Parse(s); len(r) != 0 || at != wantAt || e != want {
			t.Errorf("Parse(%.100q) = %.100q, %d, %d, want %d, %d", s, r, at, e, wantAt, want)
		}
	}
	full := strings.Repeat("a!", 50)
	wants("", 0, api.OK)
	wants("a!!b", 2, api.ErrShort) // example 1
	wants("a!B", 2, api.ErrByte)   // example 1
	wants("!", 0, api.ErrShort)
	wants("!a", 0, api.ErrShort)
	wants("a!", 2, api.ErrShort)
	wants("a b", 1, api.ErrByte)
	wants("a! b", 2, api.ErrByte)
	wants("a!b..c!D", 4, api.ErrName)
	wants("ab!c-!", 4, api.ErrName)
	wants("ab!"+strings.Repeat("c", 31), 33, api.ErrLong)
	wants(full, 100, api.ErrLimit) // an empty name is one, too
	wants(full+"a", 100, api.ErrLimit)
	wants(full+"A", 100, api.ErrLimit)
	wants(full+"a!B!", 100, api.ErrLimit)
	wants("A!"+full, 0, api.ErrByte) // from left to right
	wants(full[:98]+"B!a", 98, api.ErrByte)
	wants(full[:98]+"!a", 98, api.ErrShort)
	wants(strings.Repeat("a!", 1<<20), 100, api.ErrLimit)
	wants(strings.Repeat("a", 1<<20), 30, api.ErrLong)
}

func TestP16_1Examples(t *testing.T) {
	r, at, e := route.Parse("c!b!a")
	if !slices.Equal(r, route.Route{"c", "b", "a"}) || at != 0 || e != api.OK {
		t.Errorf("Parse = %q, %d, %d", r, at, e)
	}
	full := numbered(50)
	if r, at, e := route.Parse(full.String()); !slices.Equal(r, full) || at != 0 || e != api.OK {
		t.Errorf("Parse of 50 names = %q, %d, %d", r, at, e)
	}
}

// TestP16_2Short has all short routes of names of several kinds.
func TestP16_2Short(t *testing.T) {
	errors := map[api.Errno]int{}
	for _, r := range routes(4, "a", "b.c", "", "B", "a.", strings.Repeat("x", 31), "a!b") {
		errors[checkRoute(t, r)]++
		errors[checkPrepend(t, r, "news")]++
		checkPrepend(t, r, "a")
		checkPrepend(t, r, "")
		checkPrepend(t, r, "N")
		checkPrepend(t, r, "a!b")
	}
	for _, e := range []api.Errno{api.OK, api.ErrShort, api.ErrByte, api.ErrName, api.ErrLong} {
		if errors[e] < 50 {
			t.Errorf("the errors are %v", errors)
		}
	}
}

// TestP16_2Numbers has routes of up to 60 names, with wrong ones and without.
func TestP16_2Numbers(t *testing.T) {
	for n := range 61 {
		r := numbered(n)
		want := api.OK
		if n > 50 {
			want = api.ErrLimit
		}
		if e := checkRoute(t, r); e != want {
			t.Errorf("Check of %d names: %d, want %d", n, e, want)
		}
		if e := checkPrepend(t, r, "news"); e != want {
			t.Errorf("Prepend to %d names: %d, want %d", n, e, want)
		}
		for i := range r {
			changed := slices.Clone(r)
			changed[i] = "B"
			want := api.ErrByte
			if n > 50 { // whatever the names are
				want = api.ErrLimit
			}
			if e := checkRoute(t, changed); e != want {
				t.Errorf("Check of %d names: %d, want %d", n, e, want)
			}
			if e := checkPrepend(t, changed, "news"); e != want {
				t.Errorf("Prepend to %d names: %d, want %d", n, e, want)
			}
			changed[n-1] = ""
			checkRoute(t, changed)
		}
	}
}

func TestP16_2Errors(t *testing.T) {
	wants := func(want api.Errno, text string, names ...string) {
		t.Helper()
		r := route.Route(names)
		if e := checkRoute(t, r); e != want || r.String() != text {
			t.Errorf("Check of %q: %d, want %d; the text is %q, want %q", r, e, want, r.String(), text)
		}
	}
	wants(api.OK, "")
	wants(api.OK, "c!b!a", "c", "b", "a")
	wants(api.OK, "a!a", "a", "a")
	wants(api.ErrShort, "", "")
	wants(api.ErrShort, "!", "", "")
	wants(api.ErrShort, "a!", "a", "")
	wants(api.ErrByte, "a!B!c.", "a", "B", "c.")
	wants(api.ErrName, "a!c.!B", "a", "c.", "B") // of the first name that has one
	wants(api.ErrByte, "a!b!c", "a!b", "c")
	wants(api.ErrByte, "A\xff!\x00", "A\xff", "\x00") // for any route
}

func TestP16_3Errors(t *testing.T) {
	full, over := numbered(50), numbered(51)
	wants := func(want api.Errno, site string, r route.Route) {
		t.Helper()
		if got, e := r.Prepend(site); e != want || want != api.OK && len(got) != 0 {
			t.Errorf("Prepend(%q) to %.100q = %.100q, %d, want %d", site, r, got, e, want)
		}
		checkPrepend(t, r, site)
	}
	wants(api.OK, "d", nil)
	wants(api.OK, "d", route.Route{"d"})
	wants(api.OK, "d", full)
	wants(api.ErrLimit, "d", over)
	wants(api.ErrByte, "D", over) // the site comes first
	wants(api.ErrShort, "", route.Route{"B"})
	wants(api.ErrByte, "d", route.Route{"a", "B", "c."})
	wants(api.ErrName, "d.", nil)
	wants(api.ErrLong, strings.Repeat("d", 31), nil)
	if r, e := (route.Route{"c", "b", "a"}).Prepend("d"); r.String() != "d!c!b!a" || e != api.OK { // example 1
		t.Errorf("Prepend = %q, %d", r, e)
	}
	r, _ := full.Prepend("d")
	if len(r) != 50 || r[0] != "d" || r[1] != "s0" || r[49] != "s48" {
		t.Errorf("Prepend to 50 names = %q", r)
	}
	r, _ = full[:49].Prepend("d")
	if len(r) != 50 || r[0] != "d" || r[49] != "s48" {
		t.Errorf("Prepend to 49 names = %q", r)
	}
}

// TestP16_5Journey follows an article through many sites.
func TestP16_5Journey(t *testing.T) {
	random := rand.New(rand.NewSource(165))
	for range 20 {
		var r route.Route
		for range 120 {
			name := "s" + strconv.Itoa(random.Intn(30))
			before := slices.Clone(r)
			next, e := r.Prepend(name)
			if e != api.OK || next.Check() != api.OK || next[0] != name {
				t.Fatalf("Prepend(%q) to %q = %q, %d", name, r, next, e)
			}
			if len(r) < 50 && !slices.Equal(next[1:], r) || len(r) == 50 && !slices.Equal(next[1:], r[:49]) {
				t.Fatalf("Prepend(%q) to %q = %q", name, r, next)
			}
			checkRoute(t, next)
			if !slices.Equal(r, before) {
				t.Fatalf("the route is now %q, and was %q", r, before)
			}
			r = next
		}
	}
}

// volatile returns a text, and a function that overwrites it.
func volatile(s string) (string, func()) {
	b := []byte(s)
	return unsafe.String(&b[0], len(b)), func() { clear(b) }
}

// TestP16_5Retained checks that results keep no memory of the arguments.
func TestP16_5Retained(t *testing.T) {
	wants := func(r route.Route, want ...string) {
		t.Helper()
		if !slices.Equal(r, route.Route(want)) {
			t.Errorf("the route is now %q, want %q", r, want)
		}
	}
	s, overwrite := volatile("ab!c")
	r, _, _ := route.Parse(s)
	overwrite()
	wants(r, "ab", "c")

	a, overwriteA := volatile("aa")
	b, overwriteB := volatile("bb")
	r = make(route.Route, 3, 10) // with room for more
	copy(r, route.Route{a, "c", a})
	p, _ := r.Prepend(b)
	common := route.Common(r, route.Route{"c", a})
	links := r.Links()
	loop, _ := r.Loop()
	text := (route.Route{a}).String()
	p[1] = "x"
	common[0] = "y"
	links[0][0] = "z"
	wants(r, "aa", "c", "aa")
	overwriteA()
	overwriteB()
	wants(p, "bb", "x", "c", "aa")
	wants(common, "y", "aa")
	if links[0] != [2]string{"z", "c"} || links[1] != [2]string{"c", "aa"} || loop != "aa" || text != "aa" {
		t.Errorf("the links are now %q, the loop %q, and the text %q", links, loop, text)
	}
	full := numbered(50)
	q, _ := full.Prepend("d")
	q[49] = "x"
	if full[48] != "s48" || full[49] != "s49" {
		t.Errorf("the route is now %q", full)
	}
}
