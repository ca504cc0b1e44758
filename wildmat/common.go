package wildmat

import (
	"cmp"
	"strings"
)

// positions are a position in each of two patterns.
type positions struct{ p, q int }

// search looks for common strings of the ends of two patterns.
type search struct {
	p, q *Pattern
	best map[positions]string // the shortest and smallest common string of what begins at the positions, if there is one
}

// isBetter reports whether a string is shorter than another one, or of the same length and smaller.
func isBetter(a, b string) bool {
	return cmp.Or(cmp.Compare(len(a), len(b)), strings.Compare(a, b)) < 0
}

// offer makes some characters, followed by the best string of later positions, a candidate for the best string of positions.
func (s *search) offer(at positions, characters string, then positions) {
	rest, found := s.best[then]
	if !found {
		return
	}
	best, has := s.best[at]
	if candidate := characters + rest; !has || isBetter(candidate, best) {
		s.best[at] = candidate
	}
}

// solve finds the best string of positions, when those of all later ones are known.
//
// A character that both elements take is the smallest one, as all of them lead to the same positions.
func (s *search) solve(at positions) {
	one := positions{at.p + 1, at.q + 1} // when each of the elements has taken one character
	if s.p.isSequence(at.p) {
		s.offer(at, "", positions{at.p + 1, at.q})
		one.p = at.p
	}
	if s.q.isSequence(at.q) {
		s.offer(at, "", positions{at.p, at.q + 1})
		one.q = at.q
	}
	if both := s.p.stands(at.p) & s.q.stands(at.q); both != 0 {
		s.offer(at, both.smallest(), one)
	}
}

// Common returns the shortest name that two patterns match, the smallest one of several.
func Common(p, q *Pattern) (string, bool) {
	if p == nil || q == nil {
		return "", false
	}
	end := positions{len(p.elements), len(q.elements)}
	s := search{p, q, map[positions]string{end: ""}}
	for i := end.p; i >= 0; i-- {
		for j := end.q; j >= 0; j-- {
			s.solve(positions{i, j})
		}
	}
	common, found := s.best[positions{}]
	return common, found
}
