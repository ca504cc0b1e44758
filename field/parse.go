package field

import (
	"strings"

	"bulletin/api"
	"bulletin/ascii"
)

// parser reads the lines of a header one after another. Its methods do nothing after the first failure.
type parser struct {
	text   string
	line   int       // where the line begins that is being read
	at     int       // where the next one begins
	fields []Field   // what the lines before say
	wrong  int       // where the first failure is
	e      api.Errno // its kind
}

// must remembers a failure if a condition does not hold, unless there was a failure before, and reports whether there was none.
func (p *parser) must(holds bool, at int, e api.Errno) bool {
	if p.e == api.OK && !holds {
		p.wrong, p.e = at, e
	}
	return p.e == api.OK
}

// more reports whether there is another line to be read.
func (p *parser) more() bool { return p.e == api.OK && p.at < len(p.text) }

// next returns the next line without its line feed.
func (p *parser) next() string {
	line, _, ended := strings.Cut(p.text[p.at:], "\n")
	p.line, p.at = p.at, p.at+len(line)+len("\n")
	valid := span(line, isVisibleOrBlank)
	p.must(ended, len(p.text), api.ErrShort)
	p.must(len(line) <= api.MaxLine, p.line+api.MaxLine, api.ErrLong)
	p.must(valid == len(line), p.line+valid, api.ErrByte)
	return line
}

// field begins a field unless a line continues one, and returns what the line says of the body.
func (p *parser) field(line string) string {
	if line != "" && ascii.IsBlank(line[0]) {
		p.must(len(p.fields) > 0, p.line, api.ErrFormat)
		return line
	}
	name, body, found := strings.Cut(line, ":")
	p.must(found, p.line, api.ErrFormat)
	p.must(ValidName(name), p.line, api.ErrName)
	if p.must(len(p.fields) < api.MaxFields, p.line, api.ErrLimit) {
		p.fields = append(p.fields, Field{Name: strings.Clone(name)})
	}
	return body
}

// extend appends words, with which the line ends, to the body of the last field.
func (p *parser) extend(words string) {
	from := p.at - len("\n") - len(words)
	long := longWord(words) // no word before it contains it, since none of them is as long
	if !p.must(long == "", from+strings.Index(words, long), api.ErrLong) {
		return
	}
	more := ascii.Squeeze(words)
	last := &p.fields[len(p.fields)-1]
	if last.Body != "" && more != "" {
		last.Body += " "
	}
	last.Body += more
	p.must(len(last.Body) <= MaxBody, p.line, api.ErrLong)
}

// Parse returns the fields of a header; on error it returns the offset of the error.
func Parse(s string) ([]Field, int, api.Errno) {
	p := parser{text: s}
	p.must(len(s) <= api.MaxArticle, api.MaxArticle, api.ErrLong)
	for p.more() {
		p.extend(p.field(p.next()))
	}
	if p.e != api.OK {
		return nil, p.wrong, p.e
	}
	return p.fields, 0, api.OK
}
