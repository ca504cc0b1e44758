package references

import (
	"slices"

	"bulletin/api"
	"bulletin/msgid"
)

// Reply returns the list of an answer to an article with a list.
func Reply(l []api.Id, parent api.Id) ([]api.Id, api.Errno) {
	if e := Check(l); e != api.OK {
		return nil, e
	}
	if msgid.IsZero(parent) {
		return nil, api.ErrArgument
	}
	isParent := func(id api.Id) bool { return id == parent }
	if _, _, occurs := Nearest(l, isParent); occurs {
		return nil, api.ErrDuplicate
	}
	return trim(append(slices.Clone(l), parent), api.MaxReferences), api.OK
}

// Parent returns the last one of a list.
func Parent(l []api.Id) (api.Id, bool) {
	all := func(api.Id) bool { return true }
	id, _, ok := Nearest(l, all)
	return id, ok
}

// Nearest returns the last one of a list that a predicate accepts, and how many follow it.
func Nearest(l []api.Id, has func(api.Id) bool) (id api.Id, missing int, ok bool) {
	if has == nil {
		return api.Id{}, len(l), false
	}
	for i, id := range slices.Backward(l) {
		if has(id) {
			return id, len(l) - 1 - i, true
		}
	}
	return api.Id{}, len(l), false
}

// Ancestors returns all of a list, the last one first.
func Ancestors(l []api.Id) func(yield func(int, api.Id) bool) {
	ids := slices.Clone(l) // the list may change before the iteration
	return func(yield func(int, api.Id) bool) {
		for i, id := range slices.Backward(ids) {
			if !yield(i, id) {
				return
			}
		}
	}
}
