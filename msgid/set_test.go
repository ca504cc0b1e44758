package msgid_test

import (
	"slices"
	"testing"

	"bulletin/api"
	"bulletin/msgid"
)

// selected returns the elements of closeIds that are wanted: the set of them, since closeIds is in ascending order.
func selected(wanted func(id api.Id) bool) []api.Id {
	var set []api.Id
	for _, id := range closeIds() {
		if wanted(id) {
			set = append(set, id)
		}
	}
	return set
}

// checkSet compares what was returned with a selection of identities.
func checkSet(t *testing.T, name string, got []api.Id, wanted func(id api.Id) bool) {
	t.Helper()
	if want := selected(wanted); !slices.Equal(got, want) {
		t.Fatalf("%s = %x, want %x", name, got, want)
	}
}

// checkSets compares all functions of sets with their definitions, for two lists of elements of closeIds.
func checkSets(t *testing.T, a, b []api.Id) {
	t.Helper()
	in := func(l []api.Id, id api.Id) bool {
		for _, one := range l {
			if one == id {
				return true
			}
		}
		return false
	}
	checkSet(t, "Set", msgid.Set(a), func(id api.Id) bool { return in(a, id) })
	checkSet(t, "Union", msgid.Union(a, b), func(id api.Id) bool { return in(a, id) || in(b, id) })
	checkSet(t, "Minus", msgid.Minus(a, b), func(id api.Id) bool { return in(a, id) && !in(b, id) })
	checkSet(t, "Both", msgid.Both(a, b), func(id api.Id) bool { return in(a, id) && in(b, id) })
	for _, id := range closeIds() {
		if msgid.Has(a, id) != in(a, id) {
			t.Fatalf("Has(%x, %x) = %t", a, id, msgid.Has(a, id))
		}
	}
}

// listsOf returns all lists of up to so many identities.
func listsOf(ids []api.Id, most int) [][]api.Id {
	all, from := [][]api.Id{nil}, 0
	for range most {
		to := len(all)
		for _, l := range all[from:to] {
			for _, id := range ids {
				all = append(all, append(slices.Clone(l), id))
			}
		}
		from = to
	}
	return all
}

// TestP11_3Sets has all pairs of sets of some identities.
func TestP11_3Sets(t *testing.T) {
	ids := closeIds()[:6]
	subset := func(bits int) []api.Id {
		var set []api.Id
		for i, id := range ids {
			if bits>>i&1 == 1 {
				set = append(set, id)
			}
		}
		return set
	}
	for a := range 1 << len(ids) {
		for b := range 1 << len(ids) {
			checkSets(t, subset(a), subset(b))
		}
	}
}

// TestP11_3Lists has lists that are not in order or have repetitions.
func TestP11_3Lists(t *testing.T) {
	c := closeIds()
	lists := listsOf([]api.Id{c[1], c[3], c[8]}, 4)
	for _, a := range lists {
		for _, b := range lists {
			checkSets(t, a, b)
		}
	}
}

func TestP11_3Long(t *testing.T) {
	forwards := closeIds()
	backwards := closeIds()
	slices.Reverse(backwards)
	twice := append(closeIds(), closeIds()...)
	for _, a := range [][]api.Id{nil, {}, forwards, backwards, twice, forwards[3:9], backwards[2:5]} {
		for _, b := range [][]api.Id{nil, {}, forwards, backwards, twice, forwards[5:], backwards[7:]} {
			checkSets(t, a, b)
		}
	}
}

// TestP11_2Set has lists of many identities.
func TestP11_2Set(t *testing.T) {
	l := someIds(5000, 112)
	set := msgid.Set(slices.Concat(l, l[1000:3000], l[:10]))
	if len(set) != len(l) {
		t.Fatalf("the set has %d elements", len(set))
	}
	for i, id := range set {
		if i > 0 && text(set[i-1]) >= text(id) {
			t.Fatalf("the element %d does not follow the one before", i)
		}
		if i%100 == 0 && !slices.Contains(l, id) {
			t.Fatalf("the element %d was not in the list", i)
		}
	}
	if got := msgid.Set(set); !slices.Equal(got, set) {
		t.Error("the set of a set is another one")
	}
	for _, none := range [][]api.Id{nil, {}} {
		if got := msgid.Set(none); len(got) != 0 {
			t.Errorf("Set of nothing = %x", got)
		}
	}
	if got := msgid.Set([]api.Id{{}, {1}, {}}); !slices.Equal(got, []api.Id{{}, {1}}) {
		t.Errorf("Set with the zero identity = %x", got)
	}
}
