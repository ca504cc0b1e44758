package signer

import (
	"bulletin/api"
	"bulletin/base64"
)

// nodeSize is the number of bytes of a root, of the value of a chain, and of a node of a path.
const nodeSize = 16

// reader reads the bytes of a text one after another.
type reader struct {
	rest []byte
	e    api.Errno // the first error
}

func newReader(text string) *reader {
	b, _, e := base64.Decode(text)
	return &reader{b, e}
}

// take reads n bytes. After an error they are zeros, so that what is read of them does not fail in another way.
func (r *reader) take(n int) []byte {
	if r.e == api.OK && len(r.rest) < n {
		r.e = api.ErrShort
	}
	if r.e != api.OK {
		return make([]byte, n)
	}
	b := r.rest[:n]
	r.rest = r.rest[n:]
	return b
}

func (r *reader) number() int { return int(r.take(1)[0]) }

func (r *reader) node() [nodeSize]byte { return [nodeSize]byte(r.take(nodeSize)) }

// end returns the first error of a text that should end here, and has to pass a check then.
func (r *reader) end(check func() api.Errno) api.Errno {
	switch {
	case r.e != api.OK:
		return r.e
	case len(r.rest) > 0:
		return api.ErrLong
	}
	return check()
}

// PublicText and SignatureText return texts, and ParsePublic and ParseSignature what they denote.
func PublicText(p Public) (string, api.Errno) {
	if e := p.Check(); e != api.OK {
		return "", e
	}
	return base64.Encode(p.bytes())
}

func ParsePublic(s string) (Public, api.Errno) {
	r := newReader(s)
	p := Public{Height: r.number(), Root: r.node()}
	if e := r.end(p.Check); e != api.OK {
		return Public{}, e
	}
	return p, api.OK
}

func SignatureText(g Signature) (string, api.Errno) {
	if e := g.Check(); e != api.OK {
		return "", e
	}
	b := []byte{byte(g.Leaf >> 8), byte(g.Leaf), byte(len(g.Path))}
	for _, value := range g.Chains {
		b = append(b, value[:]...)
	}
	for _, node := range g.Path {
		b = append(b, node[:]...)
	}
	return base64.Encode(b)
}

func ParseSignature(s string) (Signature, api.Errno) {
	r := newReader(s)
	g := Signature{Leaf: r.number()<<8 | r.number()}
	height := r.number()
	for chain := range g.Chains {
		g.Chains[chain] = r.node()
	}
	for range height {
		g.Path = append(g.Path, r.node())
	}
	if e := r.end(g.Check); e != api.OK {
		return Signature{}, e
	}
	return g, api.OK
}
