package msgid

import (
	"slices"

	"bulletin/api"
)

// Set returns identities in ascending order without duplicates.
func Set(l []api.Id) []api.Id {
	set := slices.Clone(l)
	slices.SortFunc(set, Compare)
	return slices.Compact(set)
}

// Has reports whether a set contains an identity.
//
// It searches the whole list, because lists that are not in order are permitted, too.
func Has(set []api.Id, id api.Id) bool { return slices.Contains(set, id) }

// merge returns the elements of two strictly ascending lists, in ascending order and each of them once, as far as keep says so of an element that is in a, in b or in both.
func merge[T any](a, b []T, compare func(x, y T) int, keep func(inA, inB bool) bool) []T {
	var merged []T
	for len(a) > 0 || len(b) > 0 {
		order := 0
		switch {
		case len(b) == 0:
			order = -1
		case len(a) == 0:
			order = 1
		default:
			order = compare(a[0], b[0])
		}
		var next T
		if order <= 0 {
			next, a = a[0], a[1:]
		}
		if order >= 0 {
			next, b = b[0], b[1:]
		}
		if keep(order <= 0, order >= 0) {
			merged = append(merged, next)
		}
	}
	return merged
}

// Union returns the set of the identities in a or b.
func Union(a, b []api.Id) []api.Id {
	return merge(Set(a), Set(b), Compare, func(inA, inB bool) bool { return inA || inB })
}

// Minus returns the set of the identities in a but not in b.
func Minus(a, b []api.Id) []api.Id {
	return merge(Set(a), Set(b), Compare, func(inA, inB bool) bool { return inA && !inB })
}

// Both returns the set of the identities in both a and b.
func Both(a, b []api.Id) []api.Id {
	return merge(Set(a), Set(b), Compare, func(inA, inB bool) bool { return inA && inB })
}
