package signer

import (
	"bulletin/api"
	"bulletin/merkle"
	"bulletin/onetime"
)

// The kinds of what a broken key reveals.
const (
	Tree = 1 // two different pairs of nodes have the same parent
	Leaf = 2 // evidence of layer 7
)

// Broken is what two signatures of different digests with the same leaf of one key reveal.
type Broken struct {
	Kind     int
	Two      merkle.Two
	Evidence onetime.Evidence
}

// Break returns what two signatures reveal.
func Break(p Public, a [16]byte, g Signature, b [16]byte, h Signature) (Broken, api.Errno) {
	if e := Verify(p, a, g); e != api.OK {
		return Broken{}, e
	}
	if e := Verify(p, b, h); e != api.OK {
		return Broken{}, e
	}
	switch {
	case a == b:
		return Broken{}, api.ErrDuplicate
	case g.Leaf != h.Leaf:
		return Broken{}, api.ErrNotFound
	}
	leaf, valueG, valueH := g.Leaf, g.value(a), h.value(b)
	if valueG == valueH {
		evidence, _ := onetime.Extract(leaf, a, onetime.Signature(g.Chains), b, onetime.Signature(h.Chains))
		return Broken{Kind: Leaf, Evidence: evidence}, api.OK
	}
	two, ok := merkle.Collision(leaf, merkle.Leaf(leaf, valueG[:]), g.nodes(), merkle.Leaf(leaf, valueH[:]), h.nodes())
	if !ok { // the different values have the same leaf node
		return Broken{}, api.OK
	}
	return Broken{Kind: Tree, Two: two}, api.OK
}
