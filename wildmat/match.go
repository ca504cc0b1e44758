package wildmat

// isName reports whether a string has name characters only.
func isName(s string) bool {
	for i := range len(s) {
		if setOf(s[i]) == 0 {
			return false
		}
	}
	return true
}

// Match reports whether a pattern matches a name.
//
// Every * takes as few characters as it can. When the rest does not match, it suffices to let the last * take one more, because those before it have left as much as possible to it.
func (p *Pattern) Match(name string) bool {
	if p == nil || !isName(name) {
		return false
	}
	at, taken := 0, 0           // the elements and characters that are matched
	afterSequence, end := -1, 0 // the position behind the last *, and the end of what it takes
	for taken < len(name) || p.isSequence(at) {
		switch {
		case p.isSequence(at):
			at++
			afterSequence, end = at, taken
		case p.stands(at)&setOf(name[taken]) != 0:
			at++
			taken++
		case afterSequence >= 0:
			end++
			at, taken = afterSequence, end
		default:
			return false
		}
	}
	return at == len(p.elements)
}
