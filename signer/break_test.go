package signer_test

import (
	"math/rand"
	"testing"

	"bulletin/api"
	"bulletin/onetime"
	"bulletin/signer"
)

// TestP8_5Leaf has signatures of different digests with the same leaf, by the same signer. What it takes two inputs of the hash with the same result for is tested in the folder collisions.
func TestP8_5Leaf(t *testing.T) {
	random := rand.New(rand.NewSource(85))
	for height := 1; height <= 5; height++ {
		m := newModel(signer.Secret{Seed: seedOf(50 + height), Height: height})
		for leaf := range 1 << height {
			a, b := randomDigest(random), randomDigest(random)
			if leaf%2 == 0 { // in one digit only
				b = a
				b[leaf%16] ^= 1
			}
			g, h := m.sign(leaf, a), m.sign(leaf, b)
			got, e := signer.Break(m.public(), a, g, b, h)
			evidence, f := onetime.Extract(leaf, a, onetime.Signature(g.Chains), b, onetime.Signature(h.Chains))
			if want := (signer.Broken{Kind: 2, Evidence: evidence}); got != want || e != api.OK || f != api.OK {
				t.Fatalf("Break(%x, %x) with the leaf %d = %v, %d, want %v", a, b, leaf, got, e, want)
			}
			if got.Evidence.Kind != onetime.Preimage || !got.Evidence.Check(leaf) || got.Evidence.Check(leaf^1) {
				t.Fatalf("Break(%x, %x) with the leaf %d = %v, which is not correct", a, b, leaf, got)
			}
		}
	}
}

// TestP8_5Order checks that the errors come in their order.
func TestP8_5Order(t *testing.T) {
	m := newModel(signer.Secret{Seed: seedOf(5), Height: 2})
	p, a, b := m.public(), [16]byte{1}, [16]byte{2}
	refuse := func(name string, p signer.Public, a [16]byte, g signer.Signature, b [16]byte, h signer.Signature, want api.Errno) {
		t.Helper()
		if got, e := signer.Break(p, a, g, b, h); got != (signer.Broken{}) || e != want {
			t.Errorf("Break with %s = %v, %d, want %d", name, got, e, want)
		}
	}
	g, h, other := m.sign(1, a), m.sign(1, b), m.sign(2, b)
	badPath, badLeaf, wrong := clone(g), clone(g), clone(g)
	badPath.Path, badLeaf.Leaf = nil, 4
	wrong.Chains[0][0] ^= 1
	for _, height := range badHeights {
		refuse("no public key", signer.Public{Height: height, Root: p.Root}, a, g, b, h, api.ErrRange)
		refuse("no public key and wrong signatures", signer.Public{Height: height}, b, wrong, b, wrong, api.ErrRange)
	}
	for _, bad := range []signer.Signature{badPath, badLeaf} {
		refuse("a bad first signature", p, a, bad, b, h, api.ErrRange)
		refuse("a bad first signature and a wrong second one", p, a, bad, b, wrong, api.ErrRange)
		refuse("a bad second signature", p, a, g, b, bad, api.ErrRange)
		refuse("a bad second signature of the same digest", p, a, g, a, bad, api.ErrRange)
		refuse("a wrong first signature and a bad second one", p, a, wrong, b, bad, api.ErrSignature)
	}
	refuse("a wrong first signature", p, a, wrong, b, h, api.ErrSignature)
	refuse("a wrong second signature", p, b, h, a, wrong, api.ErrSignature)
	refuse("a wrong second signature of the same digest", p, a, g, a, wrong, api.ErrSignature)
	refuse("a wrong second signature with another leaf", p, a, g, b, m.sign(2, a), api.ErrSignature)
	refuse("digests that are exchanged", p, b, g, a, h, api.ErrSignature)
	refuse("another key", signer.Public{Height: 2}, a, g, b, h, api.ErrSignature)
	refuse("another height", signer.Public{Height: 3, Root: p.Root}, a, g, b, h, api.ErrSignature)
	refuse("the same signature", p, a, g, a, g, api.ErrDuplicate)
	refuse("the same digest with another leaf", p, b, h, b, other, api.ErrDuplicate)
	refuse("another leaf", p, a, g, b, other, api.ErrNotFound)
	refuse("another leaf first", p, b, other, a, g, api.ErrNotFound)
	if got, e := signer.Break(p, a, g, b, h); got.Kind != signer.Leaf || e != api.OK {
		t.Errorf("Break = %v, %d", got, e)
	}
}
