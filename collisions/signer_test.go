package collisions_test

import (
	"encoding/binary"
	"math/rand"
	"slices"
	"testing"

	"bulletin/api"
	"bulletin/merkle"
	"bulletin/onetime"
	"bulletin/signer"
)

// publicValue returns the public value that the chains of a signature lead to.
func publicValue(digest [16]byte, g signer.Signature) onetime.Value {
	var ends [35]onetime.Value
	for chain, digit := range onetime.Split(digest) {
		ends[chain] = advanced(g.Leaf, chain, digit, 15, g.Chains[chain])
	}
	return publicOf(g.Leaf, ends)
}

func leafNode(leaf int, public onetime.Value) merkle.Node {
	b := binary.BigEndian.AppendUint32([]byte{0}, uint32(leaf))
	return weak(append(b, public[:]...))
}

func nodesOf(path [][16]byte) []merkle.Node {
	var nodes []merkle.Node
	for _, node := range path {
		nodes = append(nodes, node)
	}
	return nodes
}

// rootOf returns the root that a signature leads to.
func rootOf(digest [16]byte, g signer.Signature) merkle.Node {
	_, root := pairs(g.Leaf, leafNode(g.Leaf, publicValue(digest, g)), nodesOf(g.Path))
	return root
}

// broken returns what P8.5 says of two signatures of different digests that a key accepts, with the same leaf.
func broken(a [16]byte, g signer.Signature, b [16]byte, h signer.Signature) signer.Broken {
	publicG, publicH := publicValue(a, g), publicValue(b, h)
	if publicG == publicH {
		evidence, _ := extracted(g.Leaf, a, g.Chains, b, h.Chains)
		return signer.Broken{Kind: 2, Evidence: evidence}
	}
	two, ok := expected(g.Leaf, leafNode(g.Leaf, publicG), nodesOf(g.Path), leafNode(g.Leaf, publicH), nodesOf(h.Path))
	if !ok {
		return signer.Broken{}
	}
	return signer.Broken{Kind: 1, Two: two}
}

// reveals reports whether what was found is what P8.7 promises: two inputs of the hash with the same result, or a value that precedes another one.
func reveals(found signer.Broken, a [16]byte, g signer.Signature, b [16]byte, h signer.Signature) bool {
	switch found.Kind {
	case signer.Tree:
		two := found.Two
		return found.Evidence == onetime.Evidence{} && two.A != two.B && merkle.Join(two.Level, two.A[0], two.A[1]) == merkle.Join(two.Level, two.B[0], two.B[1])
	case signer.Leaf:
		return found.Two == merkle.Two{} && found.Evidence.Check(g.Leaf)
	case 0:
		publicG, publicH := publicValue(a, g), publicValue(b, h)
		return found == signer.Broken{} && publicG != publicH && leafNode(g.Leaf, publicG) == leafNode(g.Leaf, publicH)
	}
	return false
}

// randomSignature returns a signature with a path of this height.
func randomSignature(random *rand.Rand, leaf, height int) signer.Signature {
	g := signer.Signature{Leaf: leaf, Path: make([][16]byte, height)}
	for chain := range g.Chains {
		g.Chains[chain] = randomValue(random)
	}
	for k := range g.Path {
		g.Path[k] = randomValue(random)
	}
	return g
}

// TestP8_5Accepted breaks keys with signatures that are accepted by chance.
func TestP8_5Accepted(t *testing.T) {
	random := rand.New(rand.NewSource(85))
	kinds, evidence, sameLeaf := map[int]int{}, map[int]int{}, 0
	for range 6000 {
		height := 1 + random.Intn(8)
		leaf := random.Intn(1 << height)
		a, g := randomDigest(random), randomSignature(random, leaf, height)
		b, h := randomDigest(random), randomSignature(random, leaf, height)
		if random.Intn(2) == 0 {
			h.Path = slices.Clone(g.Path)
		}
		if random.Intn(2) == 0 { // with the same ends
			g.Chains, h.Chains = forge(random, leaf, a, b)
		}
		p := signer.Public{Height: height, Root: rootOf(a, g)}
		got, e := signer.Break(p, a, g, b, h)
		if rootOf(b, h) != p.Root {
			if got != (signer.Broken{}) || e != api.ErrSignature {
				t.Fatalf("Break(%v, %x, %v, %x, %v) = %v, %d", p, a, g, b, h, got, e)
			}
			continue
		}
		if want := broken(a, g, b, h); got != want || e != api.OK || !reveals(got, a, g, b, h) {
			t.Fatalf("Break(%v, %x, %v, %x, %v) = %v, %d, want %v", p, a, g, b, h, got, e, want)
		}
		kinds[got.Kind]++
		if got.Kind == signer.Leaf {
			evidence[got.Evidence.Kind]++
		}
		if got.Kind == signer.Tree && leafNode(leaf, publicValue(a, g)) == leafNode(leaf, publicValue(b, h)) {
			sameLeaf++
		}
	}
	for _, kind := range []int{0, signer.Tree, signer.Leaf} {
		if kinds[kind] < 100 {
			t.Errorf("the kinds are %v", kinds)
		}
	}
	for _, kind := range []int{onetime.Preimage, onetime.Collision, onetime.Ends} {
		if evidence[kind] < 100 {
			t.Errorf("the kinds of evidence are %v", evidence)
		}
	}
	if sameLeaf < 10 {
		t.Errorf("only %d trees are broken with the same leaf node", sameLeaf)
	}
}

// TestP8_5AcceptedErrors checks that the errors come first, although the key accepts both signatures.
func TestP8_5AcceptedErrors(t *testing.T) {
	random := rand.New(rand.NewSource(855))
	same, other := 0, 0
	for range 4000 {
		a, g := randomDigest(random), randomSignature(random, random.Intn(4), 2)
		b, h := randomDigest(random), randomSignature(random, random.Intn(4), 2)
		if random.Intn(2) == 0 {
			b = a
		}
		p := signer.Public{Height: 2, Root: rootOf(a, g)}
		want := api.OK
		switch {
		case rootOf(b, h) != p.Root:
			continue
		case a == b:
			want = api.ErrDuplicate
			same++
		case g.Leaf != h.Leaf:
			want = api.ErrNotFound
			other++
		}
		got, e := signer.Break(p, a, g, b, h)
		if e != want || e != api.OK && got != (signer.Broken{}) {
			t.Fatalf("Break(%v, %x, %v, %x, %v) = %v, %d, want %d", p, a, g, b, h, got, e, want)
		}
	}
	if same < 100 || other < 100 {
		t.Errorf("%d of the same digest, %d with another leaf", same, other)
	}
}

// TestP8_7Changed checks what follows if a key accepts another digest, a changed value or a changed path.
func TestP8_7Changed(t *testing.T) {
	random := rand.New(rand.NewSource(87))
	secret := signer.Secret{Seed: [32]byte{8}, Height: 4}
	p, _ := secret.Public()
	accepted := 0
	for range 1500 {
		leaf, a, b := random.Intn(16), randomDigest(random), randomDigest(random)
		g, _ := signer.Sign(secret, leaf, a)
		h := signer.Signature{Leaf: leaf, Chains: g.Chains, Path: slices.Clone(g.Path)}
		if random.Intn(2) == 0 {
			h.Path[random.Intn(4)] = randomValue(random)
		}
		h.Chains[random.Intn(35)] = randomValue(random)
		if signer.Verify(p, b, h) != api.OK {
			continue
		}
		accepted++
		if got, e := signer.Break(p, a, g, b, h); e != api.OK || !reveals(got, a, g, b, h) {
			t.Fatalf("Break(%v, %x, %v, %x, %v) = %v, %d", p, a, g, b, h, got, e)
		}
	}
	if accepted < 100 {
		t.Errorf("only %d changed signatures were accepted", accepted)
	}
}
