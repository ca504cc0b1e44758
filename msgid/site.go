package msgid

import (
	"bulletin/api"
	"bulletin/ascii"
)

func isSiteByte(c byte) bool { return ascii.IsLower(c) || ascii.IsDigit(c) || c == '-' || c == '.' }

// isMisplaced reports whether a byte of a name is permitted, but not at its place.
func isMisplaced(name string, at int) bool {
	c := name[at]
	switch {
	case at == 0 && !ascii.IsLower(c):
		return true
	case at > 0 && c == '.' && name[at-1] == '.':
		return true
	}
	return at == len(name)-1 && (c == '-' || c == '.')
}

// Site returns the offset of the first error of a site's name and its kind.
func Site(name string) (int, api.Errno) {
	switch {
	case name == "":
		return 0, api.ErrShort
	case len(name) > api.MaxSite:
		return api.MaxSite, api.ErrLong
	}
	for at := range len(name) {
		if !isSiteByte(name[at]) {
			return at, api.ErrByte
		}
	}
	for at := range len(name) {
		if isMisplaced(name, at) {
			return at, api.ErrName
		}
	}
	return 0, api.OK
}
