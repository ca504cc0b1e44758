package onetime

import "bulletin/api"

// The kinds of evidence.
const (
	Preimage  = 1 // A leads to B in Chain, from step From to step To
	Collision = 2 // A and B are different and have the same next value in Chain at step From
	Ends      = 3 // two different lists of last values have the same public value
)

// Evidence is what two accepted signatures of different digests under the same leaf reveal.
type Evidence struct {
	Kind, Chain, From, To int
	A, B                  Value
	First, Second         [Chains]Value
}

// Extract returns the evidence of two signatures.
func Extract(leaf int, first [16]byte, s Signature, second [16]byte, t Signature) (Evidence, api.Errno) {
	if !isLeaf(leaf) {
		return Evidence{}, api.ErrRange
	}
	if first == second {
		return Evidence{}, api.ErrDuplicate
	}
	endsS, endsT := ends(leaf, first, s), ends(leaf, second, t)
	if compress(leaf, endsS) != compress(leaf, endsT) {
		return Evidence{}, api.ErrSignature
	}
	if endsS != endsT {
		return Evidence{Kind: Ends, First: endsS, Second: endsT}, api.OK
	}
	chain, _ := Lower(first, second) // there is one, since the digests are different
	high, low := Split(first)[chain], Split(second)[chain]
	v := advance(leaf, chain, low, high, t[chain])
	if v == s[chain] {
		return Evidence{Kind: Preimage, Chain: chain, From: low, To: high, A: t[chain], B: v}, api.OK
	}
	return meeting(leaf, chain, high, s[chain], v), api.OK
}

// meeting returns the evidence of two different values at a step of a chain that lead to the same end: where they become equal.
func meeting(leaf, chain, from int, a, b Value) Evidence {
	for step := from; step < Steps; step++ {
		nextA, nextB := advance(leaf, chain, step, step+1, a), advance(leaf, chain, step, step+1, b)
		if nextA == nextB {
			return Evidence{Kind: Collision, Chain: chain, From: step, To: step + 1, A: a, B: b}
		}
		a, b = nextA, nextB
	}
	return Evidence{} // not reached: at the end the values are equal
}

// Check reports whether evidence for a leaf is correct.
func (e Evidence) Check(leaf int) bool {
	switch e.Kind {
	case Preimage:
		return e.isPreimage(leaf)
	case Collision:
		return e.isCollision(leaf)
	case Ends:
		return e.isEnds(leaf)
	}
	return false
}

// ofChain reports whether the evidence says nothing about the ends of all chains, and ofEnds whether it says nothing but these.
func (e Evidence) ofChain() bool {
	var none [Chains]Value
	return e.First == none && e.Second == none
}

func (e Evidence) ofEnds() bool {
	return e == Evidence{Kind: e.Kind, First: e.First, Second: e.Second}
}

func (e Evidence) isPreimage(leaf int) bool {
	b, errno := Advance(leaf, e.Chain, e.From, e.To, e.A)
	return errno == api.OK && e.ofChain() && e.From < e.To && b == e.B
}

func (e Evidence) isCollision(leaf int) bool {
	nextA, errno := Step(leaf, e.Chain, e.From, e.A)
	nextB, _ := Step(leaf, e.Chain, e.From, e.B) // the same error, since it does not depend on the value
	return errno == api.OK && e.ofChain() && e.To == e.From+1 && e.A != e.B && nextA == nextB
}

func (e Evidence) isEnds(leaf int) bool {
	return isLeaf(leaf) && e.ofEnds() && e.First != e.Second && compress(leaf, e.First) == compress(leaf, e.Second)
}
