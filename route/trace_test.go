package route_test

import (
	"math/rand"
	"slices"
	"strconv"
	"testing"

	"bulletin/route"
)

// checkTrace compares Contains, Loop and Links of a route with the words of the chapter.
func checkTrace(t *testing.T, r route.Route, sites ...string) {
	t.Helper()
	for _, site := range sites {
		if got, want := r.Contains(site), slices.Index(r, site) >= 0; got != want {
			t.Fatalf("Contains(%q) of %.200q is %t", site, r, got)
		}
	}
	want, wanted := "", false
	for i := len(r) - 1; i >= 0; i-- {
		if slices.Index(r[i+1:], r[i]) >= 0 {
			want, wanted = r[i], true
		}
	}
	if name, is := r.Loop(); name != want || is != wanted {
		t.Fatalf("Loop of %.200q = %q, %t, want %q, %t", r, name, is, want, wanted)
	}
	way := slices.Clone(r)
	slices.Reverse(way)
	var links [][2]string
	for i := range max(len(way)-1, 0) {
		link := [2]string{way[i], way[i+1]}
		if way[i] != way[i+1] && slices.Index(links, link) < 0 {
			links = append(links, link)
		}
	}
	if got := r.Links(); !slices.Equal(got, links) {
		t.Fatalf("Links of %.200q = %.200q, want %.200q", r, got, links)
	}
}

// checkCommon compares Common with the words of the chapter.
func checkCommon(t *testing.T, a, b route.Route) {
	t.Helper()
	var want route.Route
	for n := 1; n <= min(len(a), len(b)); n++ {
		if end := a[len(a)-n:]; slices.Equal(end, b[len(b)-n:]) {
			want = end
		}
	}
	if got := route.Common(a, b); !slices.Equal(got, want) {
		t.Fatalf("Common(%.200q, %.200q) = %.200q, want %.200q", a, b, got, want)
	}
}

// TestP16_4Short has all short routes, which need not be valid.
func TestP16_4Short(t *testing.T) {
	sites := []string{"a", "b", "c", "", "B!"}
	for _, r := range routes(6, sites...) {
		checkTrace(t, r, append(sites, "d", "a!b", "A", "ab")...)
	}
	for _, r := range routes(8, "a", "b", "c") {
		checkTrace(t, r, "a", "b", "c", "d")
	}
	all := routes(4, "a", "b", "")
	for _, a := range all {
		for _, b := range all {
			checkCommon(t, a, b)
		}
	}
}

func TestP16_4Examples(t *testing.T) {
	links := func(r route.Route, want ...[2]string) {
		t.Helper()
		if got := r.Links(); !slices.Equal(got, want) {
			t.Errorf("Links of %q = %q, want %q", r, got, want)
		}
	}
	links(route.Route{"c", "b", "a"}, [2]string{"a", "b"}, [2]string{"b", "c"})      // example 1
	links(route.Route{"a", "b", "a"}, [2]string{"a", "b"}, [2]string{"b", "a"})      // a link and the one in the other direction
	links(route.Route{"b", "a", "b", "a"}, [2]string{"a", "b"}, [2]string{"b", "a"}) // without repetitions
	links(route.Route{"b", "b", "a", "a"}, [2]string{"a", "b"})
	links(route.Route{"a", "a", "a"})
	links(route.Route{"a"})
	links(nil)
	links(route.Route{"c", "ab", "bc", "a"}, [2]string{"a", "bc"}, [2]string{"bc", "ab"}, [2]string{"ab", "c"})

	loop := func(r route.Route, want string, wanted bool) {
		t.Helper()
		if name, is := r.Loop(); name != want || is != wanted {
			t.Errorf("Loop of %q = %q, %t, want %q, %t", r, name, is, want, wanted)
		}
	}
	loop(route.Route{"b", "c", "b", "a"}, "b", true)           // example 2
	loop(route.Route{"a", "b", "b", "c", "c", "a"}, "a", true) // the first one from the beginning
	loop(route.Route{"d", "b", "a", "a", "b"}, "b", true)
	loop(route.Route{"a", "b"}, "", false)
	loop(route.Route{"a"}, "", false)
	loop(nil, "", false)
	loop(route.Route{"", "a", ""}, "", true)

	common := func(a, b route.Route, want ...string) {
		t.Helper()
		if got := route.Common(a, b); !slices.Equal(got, route.Route(want)) {
			t.Errorf("Common(%q, %q) = %q, want %q", a, b, got, want)
		}
	}
	x, y := route.Route{"x", "b", "a"}, route.Route{"y", "z", "b", "a"}
	common(x, y, "b", "a") // example 2
	common(y, x, "b", "a")
	common(x, x, "x", "b", "a")
	common(x, x[1:], "b", "a")
	common(x[:2], x)
	common(x, nil)
	common(nil, nil)
	common(route.Route{"a", "b", "a"}, route.Route{"a", "c", "a"}, "a")
}

// TestP16_4Long has routes that are much longer than valid ones.
func TestP16_4Long(t *testing.T) {
	r := numbered(100000)
	if name, is := r.Loop(); name != "" || is {
		t.Errorf("Loop = %q, %t", name, is)
	}
	if name, is := append(slices.Clone(r), "s70000").Loop(); name != "s70000" || !is {
		t.Errorf("Loop = %q, %t", name, is)
	}
	links := r.Links()
	if len(links) != 99999 || links[0] != [2]string{"s99999", "s99998"} || links[99998] != [2]string{"s1", "s0"} {
		t.Errorf("there are %d links", len(links))
	}
	if common := route.Common(r, append(route.Route{"x", "y"}, r[10:]...)); !slices.Equal(common, r[10:]) {
		t.Errorf("Common returns %d names", len(common))
	}
	if !r.Contains("s99999") || r.Contains("s100000") {
		t.Error("Contains of a long route")
	}
}

// TestP16_4Random has routes of up to 60 names of some sites.
func TestP16_4Random(t *testing.T) {
	random := rand.New(rand.NewSource(164))
	some := func(names int) route.Route {
		var r route.Route
		for range random.Intn(61) {
			r = append(r, "s"+strconv.Itoa(random.Intn(names)))
		}
		return r
	}
	for _, names := range []int{1, 2, 5, 20, 300} {
		for range 200 {
			a, b := some(names), some(names)
			checkTrace(t, a, "s0", "s1", "s10", "s299")
			checkCommon(t, a, b)
			end := some(names)
			checkCommon(t, slices.Concat(a, end), slices.Concat(b, end))
		}
	}
}
