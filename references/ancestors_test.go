package references_test

import (
	"slices"
	"testing"

	"bulletin/api"
	"bulletin/references"
)

// checkReply compares Reply with the model.
func checkReply(t *testing.T, l []api.Id, parent api.Id) api.Errno {
	t.Helper()
	var want []api.Id
	wanted := check(l)
	switch {
	case wanted != api.OK:
	case parent == api.Id{}:
		wanted = api.ErrArgument
	case slices.Contains(l, parent):
		wanted = api.ErrDuplicate
	default:
		want = trimmed(slices.Concat(l, []api.Id{parent}), 20)
	}
	if m, e := references.Reply(l, parent); !slices.Equal(m, want) || e != wanted {
		t.Fatalf("Reply(%x, %x) = %x, %d, want %x, %d", l, parent, m, e, want, wanted)
	}
	return wanted
}

func TestP14_4Short(t *testing.T) {
	ids := []api.Id{{}, {1}, {31: 1}, {2}}
	errors := map[api.Errno]int{}
	for _, l := range lists(4, ids...) {
		for _, parent := range append(ids, api.Id{3}) {
			errors[checkReply(t, l, parent)]++
		}
	}
	for _, e := range []api.Errno{api.OK, api.ErrArgument, api.ErrDuplicate} {
		if errors[e] < 20 {
			t.Errorf("the errors are %v", errors)
		}
	}
}

// TestP14_4Numbers has lists of up to 25 elements, and all of them as parents.
func TestP14_4Numbers(t *testing.T) {
	for n := range 26 {
		l := numbered(n)
		want, duplicate := api.OK, api.ErrDuplicate
		if n > 20 {
			want, duplicate = api.ErrLimit, api.ErrLimit
		}
		if e := checkReply(t, l, api.Id{255}); e != want {
			t.Errorf("Reply with %d elements: %d", n, e)
		}
		checkReply(t, l, api.Id{})
		for _, id := range l {
			if e := checkReply(t, l, id); e != duplicate {
				t.Errorf("Reply with %d elements to one of them: %d", n, e)
			}
		}
	}
	full := numbered(20)
	m, e := references.Reply(full, api.Id{255})
	if e != api.OK || len(m) != 20 || m[0] != full[0] || m[1] != full[2] || m[18] != full[19] || m[19] != (api.Id{255}) {
		t.Errorf("Reply with 20 elements = %x, %d", m, e)
	}
}

func TestP14_4Errors(t *testing.T) {
	a, b, zero := api.Id{1}, api.Id{2}, api.Id{}
	wants := func(want api.Errno, parent api.Id, l ...api.Id) {
		t.Helper()
		if e := checkReply(t, l, parent); e != want {
			t.Errorf("Reply(%x, %x): %d, want %d", l, parent, e, want)
		}
	}
	wants(api.OK, a)
	wants(api.OK, b, a)
	wants(api.ErrArgument, zero)
	wants(api.ErrArgument, zero, a)
	wants(api.ErrDuplicate, a, a)
	wants(api.ErrDuplicate, a, a, b)
	wants(api.ErrDuplicate, zero, a, a)
	wants(api.ErrArgument, a, zero)
	wants(api.ErrArgument, b, a, zero, a)
	wants(api.ErrLimit, zero, numbered(21)...)
	wants(api.ErrLimit, numbered(21)[0], numbered(21)...)
}

// TestP14_5Parent has lists of many lengths.
func TestP14_5Parent(t *testing.T) {
	if id, ok := references.Parent(nil); id != (api.Id{}) || ok {
		t.Errorf("Parent of nothing = %x, %t", id, ok)
	}
	if id, ok := references.Parent([]api.Id{}); id != (api.Id{}) || ok {
		t.Errorf("Parent of nothing = %x, %t", id, ok)
	}
	for _, n := range []int{1, 2, 3, 19, 20, 21, 1000, 5000} {
		l := numbered(n)
		if id, ok := references.Parent(l); id != l[n-1] || !ok {
			t.Errorf("Parent of %d elements = %x, %t", n, id, ok)
		}
	}
	for _, l := range lists(3, api.Id{}, api.Id{1}) { // of any list
		if id, ok := references.Parent(l); ok != (len(l) > 0) || ok && id != l[len(l)-1] {
			t.Errorf("Parent of %x = %x, %t", l, id, ok)
		}
	}
}

// checkNearest compares Nearest with the words of the chapter, for a predicate that holds for some identities, and checks what is passed to it.
func checkNearest(t *testing.T, l []api.Id, some ...api.Id) {
	t.Helper()
	want, missing, found := api.Id{}, len(l), false
	var passed []api.Id
	for i := len(l) - 1; i >= 0 && !found; i-- {
		passed = append(passed, l[i])
		if slices.Contains(some, l[i]) {
			want, missing, found = l[i], len(l)-1-i, true
		}
	}
	var got []api.Id
	has := func(id api.Id) bool {
		got = append(got, id)
		return slices.Contains(some, id)
	}
	if id, n, ok := references.Nearest(l, has); id != want || n != missing || ok != found {
		t.Fatalf("Nearest(%x) for %x = %x, %d, %t, want %x, %d, %t", l, some, id, n, ok, want, missing, found)
	}
	if !slices.Equal(got, passed) {
		t.Fatalf("Nearest(%x) passes %x, want %x", l, got, passed)
	}
}

func TestP14_5Nearest(t *testing.T) {
	a, b, c, zero := api.Id{1}, api.Id{2}, api.Id{3}, api.Id{}
	l := []api.Id{a, b, c}
	id, missing, ok := references.Nearest(l, func(id api.Id) bool { return id == a })
	if id != a || missing != 2 || !ok { // example 2
		t.Errorf("Nearest = %x, %d, %t", id, missing, ok)
	}
	for _, l := range lists(5, a, b, zero) {
		for _, some := range lists(2, a, b, zero) {
			checkNearest(t, l, some...)
		}
		if id, missing, ok := references.Nearest(l, nil); id != zero || missing != len(l) || ok {
			t.Errorf("Nearest(%x, nil) = %x, %d, %t", l, id, missing, ok)
		}
	}
	long := numbered(3000)
	for _, i := range []int{0, 1, 1500, 2998, 2999} {
		checkNearest(t, long, long[i])
		checkNearest(t, long, long[i], long[2000])
	}
	checkNearest(t, long)
}

// reference is an element of a list with its index.
type reference struct {
	index int
	id    api.Id
}

func TestP14_5Ancestors(t *testing.T) {
	for _, l := range append(lists(4, api.Id{}, api.Id{1}, api.Id{2}), numbered(20), numbered(3000)) {
		var want, got []reference
		for i := range l {
			want = append(want, reference{len(l) - 1 - i, l[len(l)-1-i]})
		}
		for i, id := range references.Ancestors(l) {
			got = append(got, reference{i, id})
		}
		if !slices.Equal(got, want) {
			t.Fatalf("Ancestors(%x) yields %v", l, got)
		}
	}
}

// TestP14_5Stops checks that nothing is yielded after yield has returned false, and that the iteration can be repeated.
func TestP14_5Stops(t *testing.T) {
	l := numbered(6)
	iterate := references.Ancestors(l)
	for stop := range 2 * len(l) {
		calls := 0
		iterate(func(i int, id api.Id) bool {
			if calls > stop || i != len(l)-1-calls || id != l[i] {
				t.Fatalf("the call %d of yield, which returns false for %d, has %d, %x", calls, stop, i, id)
			}
			calls++
			return calls <= stop
		})
		if calls != min(stop+1, len(l)) {
			t.Errorf("yield is called %d times, and returns false for %d", calls, stop)
		}
	}
}

// TestP14_7Chain has chains of answers.
func TestP14_7Chain(t *testing.T) {
	ids := numbered(60)
	var l []api.Id
	for i, id := range ids {
		m, e := references.Reply(l, id)
		if e != api.OK || references.Check(m) != api.OK {
			t.Fatalf("the answer %d has the list %x, %d", i, m, e)
		}
		if parent, ok := references.Parent(m); parent != id || !ok || m[0] != ids[0] {
			t.Fatalf("the answer %d has the list %x", i, m)
		}
		if full := trimmed(ids[:i+1], 20); !slices.Equal(m, full) {
			t.Fatalf("the answer %d has the list %x, want %x", i, m, full)
		}
		l = m
	}
}

// TestP14_7Retained checks that the functions neither change the list nor keep memory of it, and that nothing is written behind it.
func TestP14_7Retained(t *testing.T) {
	backing := numbered(24)
	before := slices.Clone(backing)
	for n := range 21 {
		l := backing[:n]
		m, e := references.Reply(l, api.Id{255})
		want := trimmed(slices.Concat(before[:n], []api.Id{{255}}), 20)
		if e != api.OK || !slices.Equal(m, want) || !slices.Equal(backing, before) {
			t.Fatalf("Reply with %d elements = %x, %d", n, m, e)
		}
		clear(m)
		for i, id := range references.Ancestors(l) {
			if id != before[i] {
				t.Fatalf("Ancestors yields %d, %x", i, id)
			}
		}
		references.Parent(l)
		references.Nearest(l, func(api.Id) bool { return false })
		if !slices.Equal(backing, before) {
			t.Fatalf("the list of %d elements has changed", n)
		}
	}
}
