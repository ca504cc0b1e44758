package references

import (
	"slices"

	"bulletin/api"
)

// maxTrimmed is the maximum number of elements of a list that Trim accepts.
const maxTrimmed = 1000

// trim returns a list that is trimmed to a positive number of elements.
func trim(l []api.Id, most int) []api.Id {
	trimmed := slices.Clone(l[max(len(l)-most, 0):])
	if len(l) > most && most > 1 {
		trimmed[0] = l[0]
	}
	return trimmed
}

// Trim keeps the first one and the last ones of a list that is too long.
func Trim(l []api.Id, most int) ([]api.Id, api.Errno) {
	switch {
	case most < 1 || most > api.MaxReferences:
		return nil, api.ErrRange
	case len(l) > maxTrimmed:
		return nil, api.ErrLimit
	}
	return trim(l, most), api.OK
}

// IsTrimmed reports whether a list can result from trimming another one.
func IsTrimmed(short, long []api.Id) bool {
	if len(short) == 0 {
		return len(long) == 0
	}
	return slices.Equal(short, trim(long, len(short)))
}

// Merge returns the longer one of two lists of the same article, of which one was trimmed.
func Merge(a, b []api.Id) ([]api.Id, api.Errno) {
	for _, l := range [][]api.Id{a, b} {
		if e := Check(l); e != api.OK {
			return nil, e
		}
	}
	switch {
	case !IsTrimmed(a, b) && !IsTrimmed(b, a):
		return nil, api.ErrRefused
	case len(a) < len(b):
		return slices.Clone(b), api.OK
	}
	return slices.Clone(a), api.OK
}
