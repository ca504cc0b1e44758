package control

import (
	"strconv"
	"strings"

	"bulletin/api"
	"bulletin/msgid"
	"bulletin/signer"
)

// words reads the words of a text one after another. It remembers the first error; what is read afterwards has no meaning.
type words struct {
	text  string
	at    int       // where the last word begins that was read
	next  int       // where the next one begins; beyond the end if the text has ended
	wrong int       // where the first error is
	e     api.Errno // its kind
}

// fail remembers an error, unless there was one before.
func (w *words) fail(at int, e api.Errno) {
	if w.e == api.OK {
		w.wrong, w.e = at, e
	}
}

// check remembers the error that the last word has, if it has one.
func (w *words) check(e api.Errno) { w.fail(w.at, e) }

func (w *words) hasEnded() bool { return w.next > len(w.text) }

// word reads the next word, which may be empty.
func (w *words) word() string {
	if w.hasEnded() {
		w.fail(len(w.text), api.ErrShort)
		return ""
	}
	word, _, _ := strings.Cut(w.text[w.next:], space)
	w.at, w.next = w.next, w.next+len(word)+len(space)
	return strings.Clone(word)
}

// rest reads everything that follows, if the text has not ended.
func (w *words) rest() string {
	if w.hasEnded() {
		return ""
	}
	rest := w.text[w.next:]
	w.at, w.next = w.next, len(w.text)+len(space)
	if rest == "" {
		w.check(api.ErrShort)
	}
	w.check(checkText(rest))
	return strings.Clone(rest)
}

// end returns the first error of a text that should have ended.
func (w *words) end() (int, api.Errno) {
	if !w.hasEnded() {
		w.fail(w.next-len(space), api.ErrLong)
	}
	return w.wrong, w.e
}

func (w *words) target() api.Id {
	target, _, e := msgid.Parse(w.word())
	if e != api.OK {
		w.check(api.ErrFormat)
	}
	w.check(checkTarget(target))
	return target
}

func (w *words) group() string {
	name := w.word()
	w.check(checkGroup(name))
	return name
}

// number reads a number that a function permits.
func (w *words) number(permit func(int) api.Errno) int {
	word := w.word()
	n, _ := strconv.Atoi(word) // what cannot be converted is not the text of the result
	if len(word) > maxDigits || n < 0 || strconv.Itoa(n) != word {
		w.check(api.ErrFormat)
	}
	w.check(permit(n))
	return n
}

// isModerated reads the first word of a mode.
func (w *words) isModerated() bool {
	word := w.word()
	if word != open && word != moderated {
		w.check(api.ErrFormat)
	}
	return word == moderated
}

func (w *words) moderators() []api.Author {
	var l []api.Author
	for _, part := range strings.Split(w.word(), comma) {
		a, _, e := ParseAuthor(part)
		if e != api.OK {
			w.check(api.ErrFormat)
		}
		l = append(l, a)
	}
	w.check(checkAuthors(l))
	return l
}

func (w *words) public() signer.Public {
	public, e := signer.ParsePublic(w.word())
	w.check(e)
	return public
}
