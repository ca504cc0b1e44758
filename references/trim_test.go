package references_test

import (
	"slices"
	"testing"

	"bulletin/api"
	"bulletin/references"
)

// trimmed is a list trimmed to any positive number of elements, by the words of the chapter.
func trimmed(l []api.Id, most int) []api.Id {
	if len(l) <= most {
		return l
	}
	if most == 1 {
		return l[len(l)-1:]
	}
	return append([]api.Id{l[0]}, l[len(l)-(most-1):]...)
}

// checkTrim compares Trim with the model.
func checkTrim(t *testing.T, l []api.Id, most int) api.Errno {
	t.Helper()
	var want []api.Id
	wanted := api.OK
	switch {
	case most < 1 || most > 20:
		wanted = api.ErrRange
	case len(l) > 1000:
		wanted = api.ErrLimit
	default:
		want = trimmed(l, most)
	}
	if m, e := references.Trim(l, most); !slices.Equal(m, want) || e != wanted {
		t.Fatalf("Trim of %d elements to %d = %x, %d, want %x, %d", len(l), most, m, e, want, wanted)
	}
	return wanted
}

func TestP14_3Trim(t *testing.T) {
	a, b, c, d := api.Id{1}, api.Id{2}, api.Id{3}, api.Id{4}
	wants := func(most int, want ...api.Id) {
		t.Helper()
		l := []api.Id{a, b, c, d}
		if m, e := references.Trim(l, most); !slices.Equal(m, want) || e != api.OK {
			t.Errorf("Trim to %d = %x, %d", most, m, e)
		}
	}
	wants(1, d) // example 1
	wants(2, a, d)
	wants(3, a, c, d) // example 1
	wants(4, a, b, c, d)
	wants(5, a, b, c, d)
	wants(20, a, b, c, d)
}

// TestP14_3Numbers has lists of many lengths and all permitted numbers of elements.
func TestP14_3Numbers(t *testing.T) {
	for _, n := range []int{0, 1, 2, 3, 4, 5, 10, 18, 19, 20, 21, 22, 25, 100, 998, 999, 1000, 1001, 1002, 3000} {
		l := numbered(n)
		for most := -3; most < 25; most++ {
			want := api.OK
			if most < 1 || most > 20 {
				want = api.ErrRange
			} else if n > 1000 {
				want = api.ErrLimit
			}
			if e := checkTrim(t, l, most); e != want {
				t.Errorf("Trim of %d elements to %d: %d", n, most, e)
			}
		}
		for _, most := range []int{-1 << 63, 1<<63 - 1, 1000, 1001, -1000} {
			if e := checkTrim(t, l, most); e != api.ErrRange {
				t.Errorf("Trim of %d elements to %d: %d", n, most, e)
			}
		}
	}
}

// TestP14_3Any has lists that are not valid.
func TestP14_3Any(t *testing.T) {
	for _, l := range lists(5, api.Id{}, api.Id{1}, api.Id{2}) {
		for most := range 7 {
			checkTrim(t, l, most)
		}
	}
	checkTrim(t, slices.Repeat([]api.Id{{7}}, 1000), 20)
	checkTrim(t, make([]api.Id, 1000), 3)
	checkTrim(t, make([]api.Id, 1001), 3)
}

// isTrimmed is what IsTrimmed returns by the words of the chapter.
func isTrimmed(short, long []api.Id) bool {
	return slices.Equal(short, long) || len(short) > 0 && slices.Equal(short, trimmed(long, len(short)))
}

// checkPair compares IsTrimmed and Merge with the model.
func checkPair(t *testing.T, a, b []api.Id) api.Errno {
	t.Helper()
	if got := references.IsTrimmed(a, b); got != isTrimmed(a, b) {
		t.Fatalf("IsTrimmed(%x, %x) is %t", a, b, got)
	}
	var want []api.Id
	wanted := api.OK
	switch {
	case check(a) != api.OK:
		wanted = check(a)
	case check(b) != api.OK:
		wanted = check(b)
	case !isTrimmed(a, b) && !isTrimmed(b, a):
		wanted = api.ErrRefused
	case len(b) > len(a):
		want = b
	default:
		want = a
	}
	if l, e := references.Merge(a, b); !slices.Equal(l, want) || e != wanted {
		t.Fatalf("Merge(%x, %x) = %x, %d, want %x, %d", a, b, l, e, want, wanted)
	}
	return wanted
}

// TestP14_6Pairs has all pairs of short lists, among them those that are not valid.
func TestP14_6Pairs(t *testing.T) {
	all := lists(4, api.Id{}, api.Id{1}, api.Id{2}, api.Id{3})
	errors := map[api.Errno]int{}
	for _, a := range all {
		for _, b := range all {
			errors[checkPair(t, a, b)]++
		}
	}
	for _, e := range []api.Errno{api.OK, api.ErrArgument, api.ErrDuplicate, api.ErrRefused} {
		if errors[e] < 30 {
			t.Errorf("the errors are %v", errors)
		}
	}
}

// TestP14_6Numbers has trimmed lists of all lengths, and lists that are almost trimmed ones.
func TestP14_6Numbers(t *testing.T) {
	for n := range 23 {
		long := numbered(n)
		for m := range n + 1 {
			short := slices.Clone(trimmed(long, max(m, 1)))[:m]
			checkPair(t, short, long)
			want := api.OK
			if n > 20 {
				want = api.ErrLimit
			} else if m == 0 && n > 0 {
				want = api.ErrRefused
			}
			if e := checkPair(t, long, short); e != want {
				t.Errorf("Merge of %d and %d elements: %d", n, m, e)
			}
			for i := range short {
				changed := slices.Clone(short)
				changed[i] = api.Id{255}
				checkPair(t, changed, long)
				checkPair(t, long, changed)
				checkPair(t, slices.Delete(slices.Clone(short), i, i+1), long)
			}
			checkPair(t, long[:m], long)
			checkPair(t, long[n-m:], long)
		}
	}
}

// TestP14_6Long has lists that are longer than Trim permits.
func TestP14_6Long(t *testing.T) {
	long := numbered(3000)
	for _, m := range []int{1, 2, 19, 20, 21, 999, 1000, 1001, 2999, 3000} {
		short := slices.Clone(trimmed(long, m))
		if !references.IsTrimmed(short, long) {
			t.Errorf("IsTrimmed of %d and 3000 elements is false", m)
		}
		if references.IsTrimmed(long, short) != (m == 3000) {
			t.Errorf("IsTrimmed of 3000 and %d elements is %t", m, m != 3000)
		}
		short[m/2] = api.Id{255}
		if references.IsTrimmed(short, long) {
			t.Errorf("IsTrimmed of %d other elements is true", m)
		}
		if e := checkPair(t, short, long); m <= 20 && e != api.ErrLimit {
			t.Errorf("Merge: %d", e)
		}
	}
}

func TestP14_6Errors(t *testing.T) {
	a, b, c, d, zero := api.Id{1}, api.Id{2}, api.Id{3}, api.Id{4}, api.Id{}
	l := []api.Id{a, b, c, d}
	wants := func(want api.Errno, x, y []api.Id) {
		t.Helper()
		if e := checkPair(t, x, y); e != want {
			t.Errorf("Merge(%x, %x): %d, want %d", x, y, e, want)
		}
	}
	wants(api.OK, nil, nil) // details: two empty lists are equal
	wants(api.OK, []api.Id{}, nil)
	wants(api.ErrRefused, nil, l)
	wants(api.ErrRefused, l, nil)
	wants(api.OK, []api.Id{a, d}, l) // example 3
	wants(api.OK, l, []api.Id{a, d})
	wants(api.ErrRefused, []api.Id{b, d}, l) // example 3
	wants(api.OK, []api.Id{d}, l)
	wants(api.ErrRefused, []api.Id{a}, l)
	wants(api.OK, []api.Id{a}, l[:1])
	wants(api.ErrRefused, []api.Id{a, b, d}, l)
	wants(api.ErrRefused, l[:3], l)
	wants(api.ErrRefused, l[1:], l)
	wants(api.ErrRefused, []api.Id{d, c, b, a}, l)
	wants(api.ErrArgument, []api.Id{zero}, []api.Id{a, a})
	wants(api.ErrDuplicate, []api.Id{a, a}, []api.Id{zero})
	wants(api.ErrArgument, []api.Id{zero}, numbered(21))
	wants(api.ErrLimit, numbered(21), []api.Id{zero})
	wants(api.ErrLimit, []api.Id{a}, numbered(21))
	wants(api.ErrArgument, []api.Id{zero}, []api.Id{zero})
	wants(api.ErrDuplicate, []api.Id{a}, []api.Id{b, b})
	wants(api.OK, numbered(20), numbered(20))
}

// TestP14_7Twice trims lists twice.
func TestP14_7Twice(t *testing.T) {
	for length := range 30 {
		l := numbered(length)
		for m := 1; m <= 20; m++ {
			for n := 1; n <= m; n++ {
				first, _ := references.Trim(l, m)
				twice, e := references.Trim(first, n)
				once, _ := references.Trim(l, n)
				if e != api.OK || !slices.Equal(twice, once) {
					t.Fatalf("%d elements trimmed to %d and then to %d are %x, %d", length, m, n, twice, e)
				}
			}
		}
	}
}

// TestP14_7Order merges lists in both orders.
func TestP14_7Order(t *testing.T) {
	all := lists(4, api.Id{1}, api.Id{2}, api.Id{3}, api.Id{4})
	merged := 0
	for _, a := range all {
		for _, b := range all {
			x, e := references.Merge(a, b)
			y, f := references.Merge(b, a)
			if (e == api.OK) != (f == api.OK) || e == api.OK && !slices.Equal(x, y) {
				t.Fatalf("Merge of %x and %x = %x, %d and %x, %d", a, b, x, e, y, f)
			}
			if e == api.OK {
				merged++
			}
			if e == api.OK && len(a) == len(b) && !slices.Equal(a, b) {
				t.Fatalf("%x and %x are merged", a, b)
			}
		}
	}
	if merged < 100 {
		t.Errorf("only %d pairs are merged", merged)
	}
}

// TestP14_7RetainedLists checks that the functions neither change the lists nor keep memory of them, and that nothing is written behind a list.
func TestP14_7RetainedLists(t *testing.T) {
	backing := numbered(24)
	before := slices.Clone(backing)
	l := backing[:20]
	for most := 1; most <= 20; most++ {
		m, _ := references.Trim(l, most)
		want := slices.Clone(trimmed(before[:20], most))
		m = append(m[:len(m):len(m)], api.Id{77})[:len(m)]
		if !slices.Equal(m, want) {
			t.Fatalf("Trim to %d = %x", most, m)
		}
		own, _ := references.Trim(l, most)
		clear(own)
		if !slices.Equal(backing, before) {
			t.Fatalf("Trim to %d shares the memory of its argument", most)
		}
	}
	for _, pair := range [][2][]api.Id{{l, l[:20]}, {l, trimmed(l, 5)}, {trimmed(l, 5), l}} {
		merged, e := references.Merge(pair[0], pair[1])
		if e != api.OK || !slices.Equal(merged, before[:20]) {
			t.Fatalf("Merge = %x, %d", merged, e)
		}
		clear(merged)
		if !slices.Equal(backing, before) {
			t.Fatal("Merge shares the memory of its arguments")
		}
	}
	references.IsTrimmed(l, backing)
	references.IsTrimmed(trimmed(l, 3), l)
	references.Check(l)
	references.Print(l)
	if !slices.Equal(backing, before) {
		t.Error("the lists have changed")
	}
}
