package article

import (
	"strings"

	"bulletin/api"
	"bulletin/field"
)

// parser reads the parts of a text one after another. Its steps return the offset of the first error and its kind.
type parser struct {
	text    string
	header  int // where the first empty line begins, or -1 if there is none
	article Article
}

// steps returns the steps in the order in which their errors count.
func (p *parser) steps() []func() (int, api.Errno) {
	return []func() (int, api.Errno){p.checkLength, p.readFields, p.checkEnd, p.readBody}
}

func (p *parser) checkLength() (int, api.Errno) {
	if len(p.text) > api.MaxArticle {
		return api.MaxArticle, api.ErrLong
	}
	return 0, api.OK
}

// readFields reads all of the text as a header if no empty line ends it, because the errors of its fields come first.
func (p *parser) readFields() (at int, e api.Errno) {
	p.header = strings.Index(lineFeed+p.text, lineFeed+lineFeed) // the text itself may begin with the empty line
	header := p.text
	if p.header >= 0 {
		header = p.text[:p.header]
	}
	p.article.Fields, at, e = field.Parse(header)
	return at, e
}

func (p *parser) checkEnd() (int, api.Errno) {
	if p.header < 0 {
		return len(p.text), api.ErrShort
	}
	return 0, api.OK
}

func (p *parser) readBody() (int, api.Errno) {
	begin := p.header + len(lineFeed)
	p.article.Body = strings.Clone(p.text[begin:])
	at, e := CheckBody(p.article.Body)
	return begin + at, e
}

// Parse returns the article of a text, or the offset of the first error and its kind.
func Parse(s string) (a Article, at int, e api.Errno) {
	p := parser{text: s}
	for _, step := range p.steps() {
		if at, e := step(); e != api.OK {
			return Article{}, at, e
		}
	}
	return p.article, 0, api.OK
}
