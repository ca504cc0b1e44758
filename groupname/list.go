package groupname

import (
	"slices"
	"strings"

	"bulletin/api"
)

const comma = ","

// checkList returns the first error of a list of names.
func checkList(l []string) api.Errno {
	switch {
	case len(l) == 0:
		return api.ErrShort
	case len(l) > api.MaxGroups:
		return api.ErrLimit
	}
	for i, name := range l {
		if e := Check(name); e != api.OK {
			return e
		}
		if slices.Contains(l[:i], name) {
			return api.ErrDuplicate
		}
	}
	return api.OK
}

// ParseList returns the groups of a list that is separated by commas.
func ParseList(s string) ([]string, api.Errno) {
	if s == "" {
		return nil, api.ErrShort
	}
	names := divide(s, comma, api.MaxGroups+1) // one part more than there may be
	if e := checkList(names); e != api.OK {
		return nil, e
	}
	return names, api.OK
}

// FormatList returns the list of groups.
func FormatList(l []string) (string, api.Errno) {
	if e := checkList(l); e != api.OK {
		return "", e
	}
	return join(l, comma), api.OK
}

// Sort returns names in increasing order without repetitions.
func Sort(l []string) ([]string, api.Errno) {
	if len(l) > MaxNames {
		return nil, api.ErrLimit
	}
	var names []string
	for _, name := range l {
		if e := Check(name); e != api.OK {
			return nil, e
		}
		names = append(names, strings.Clone(name))
	}
	slices.SortFunc(names, Compare)
	return slices.Compact(names), api.OK
}

// Children returns the distinct next components of the names that belong to a hierarchy, in increasing order.
func Children(l []string, hierarchy string) ([]string, api.Errno) {
	above := ""
	if hierarchy != "" {
		if e := Check(hierarchy); e != api.OK {
			return nil, e
		}
		above = hierarchy + dot
	}
	names, e := Sort(l)
	if e != api.OK {
		return nil, e
	}
	var children []string
	for _, name := range names {
		if below, found := strings.CutPrefix(name, above); found {
			child, _, _ := strings.Cut(below, dot)
			children = append(children, strings.Clone(child))
		}
	}
	return slices.Compact(children), api.OK // in order and adjacent, as their names are
}

// hierarchies yields all names to which a name belongs, in increasing order.
func hierarchies(name string) func(yield func(hierarchy string) bool) {
	return func(yield func(string) bool) {
		for at := range len(name) {
			if name[at] == '.' && !yield(name[:at]) {
				return
			}
		}
		yield(name)
	}
}

// Walk yields the hierarchies of names in increasing order, each with the number of names that belong to it.
func Walk(l []string) func(yield func(hierarchy string, names int) bool) {
	sorted, _ := Sort(l) // nothing is yielded after an error
	var order []string
	counts := map[string]int{}
	for _, name := range sorted {
		for hierarchy := range hierarchies(name) {
			if counts[hierarchy] == 0 { // they come in increasing order, because the names do
				order = append(order, hierarchy)
			}
			counts[hierarchy]++
		}
	}
	return func(yield func(hierarchy string, names int) bool) {
		for _, hierarchy := range order {
			if !yield(hierarchy, counts[hierarchy]) {
				return
			}
		}
	}
}
