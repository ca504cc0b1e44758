package msgid

import (
	"slices"

	"bulletin/api"
)

// minDigits is the smallest number of digits that stand for an identity.
const minDigits = 4

// Resolve returns the only identity of a list whose digits begin with a prefix.
func Resolve(prefix string, l []api.Id) (api.Id, api.Errno) {
	isWrong := func(c byte) bool { return !isHexDigit(c) }
	switch {
	case len(prefix) < minDigits:
		return api.Id{}, api.ErrShort
	case len(prefix) > digitCount:
		return api.Id{}, api.ErrLong
	case slices.ContainsFunc([]byte(prefix), isWrong):
		return api.Id{}, api.ErrByte
	}
	var found []api.Id
	for _, id := range l {
		d := digitsOf(id)
		if string(d[:len(prefix)]) == prefix {
			found = append(found, id)
		}
	}
	found = Set(found) // an identity may occur several times
	switch len(found) {
	case 0:
		return api.Id{}, api.ErrNotFound
	case 1:
		return found[0], api.OK
	}
	return api.Id{}, api.ErrDuplicate
}

// common returns the number of digits that two identities have in common at their beginnings.
func (d digits) common(other digits) int {
	n := 0
	for n < len(d) && d[n] == other[n] {
		n++
	}
	return n
}

// Shorten returns the shortest prefix of at least four digits that resolves to an identity of a list.
func Shorten(id api.Id, l []api.Id) (string, api.Errno) {
	if !Has(l, id) {
		return "", api.ErrNotFound
	}
	d := digitsOf(id)
	n := minDigits
	for _, other := range l {
		if other != id {
			n = max(n, d.common(digitsOf(other))+1)
		}
	}
	return string(d[:n]), api.OK
}
