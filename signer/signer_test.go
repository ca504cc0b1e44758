package signer_test

import (
	"math"
	"math/rand"
	"slices"
	"testing"

	"bulletin/api"
	"bulletin/merkle"
	"bulletin/onetime"
	"bulletin/signer"
)

func TestP8_1Types(t *testing.T) {
	if signer.MinHeight != 1 || signer.MaxHeight != 8 || signer.NumChains != 35 || signer.Tree != 1 || signer.Leaf != 2 {
		t.Error("the constants are not those of the document")
	}
	_ = signer.Public{Height: 1, Root: [16]byte{1}}
	_ = signer.Secret{Seed: [32]byte{1}, Height: 1}
	_ = signer.Signature{Leaf: 1, Chains: [35][16]byte{}, Path: [][16]byte{}}
	_ = signer.Broken{Kind: 1, Two: merkle.Two{}, Evidence: onetime.Evidence{}}
}

func TestP8_1CheckKeys(t *testing.T) {
	for height := 1; height <= 8; height++ {
		if e := (signer.Public{Height: height}).Check(); e != api.OK {
			t.Errorf("Check of a public key of height %d = %d", height, e)
		}
		if e := (signer.Secret{Height: height}).Check(); e != api.OK {
			t.Errorf("Check of a secret key of height %d = %d", height, e)
		}
	}
	for _, height := range badHeights {
		p, s := signer.Public{Height: height, Root: [16]byte{1}}, signer.Secret{Seed: seedOf(1), Height: height}
		if e := p.Check(); e != api.ErrRange {
			t.Errorf("Check of a public key of height %d = %d", height, e)
		}
		if e := s.Check(); e != api.ErrRange {
			t.Errorf("Check of a secret key of height %d = %d", height, e)
		}
		if got, e := s.Public(); got != (signer.Public{}) || e != api.ErrRange {
			t.Errorf("Public of a key of height %d = %v, %d", height, got, e)
		}
		if got, e := signer.Of(p); got != (api.Author{}) || e != api.ErrRange {
			t.Errorf("Of a key of height %d = %x, %d", height, got, e)
		}
	}
}

func TestP8_1CheckSignatures(t *testing.T) {
	leaves := []int{math.MinInt, -1 << 32, -256, -2, -1}
	for leaf := range 600 {
		leaves = append(leaves, leaf)
	}
	leaves = append(leaves, 65535, 65536, 1<<32, 1<<32+1, math.MaxInt)
	for nodes := range 70 {
		for _, leaf := range leaves {
			want := api.ErrRange
			if nodes >= 1 && nodes <= 8 && leaf >= 0 && float64(leaf) <= math.Pow(2, float64(nodes))-1 {
				want = api.OK
			}
			g := signer.Signature{Leaf: leaf, Path: make([][16]byte, nodes)}
			if e := g.Check(); e != want {
				t.Fatalf("Check of a signature with the leaf %d and %d nodes = %d, want %d", leaf, nodes, e, want)
			}
		}
	}
}

// publics has what another program has computed for the secret keys with countingSeed: the root, the author and the text by the height.
var publics = []struct{ root, author, text string }{
	{"0a4235d8af24486b7abc6853012fa393", "6d44cd8ce9793d0328e3d9649eb550e1", "AQpCNdivJEhrerxoUwEvo5M="},
	{"d44414302a412f2ab073b0045d9ed2f8", "d2305313b9a01cbcec18aef6e4cac048", "AtREFDAqQS8qsHOwBF2e0vg="},
	{"35d577548313bfe8d14a138e446807b6", "a8b0d01df66dfc6de1a2d921c7c5d5d4", "AzXVd1SDE7/o0UoTjkRoB7Y="},
	{"7b1d374ff3a104d5185ca17832581fad", "a49cab488dece39769dd4166fe47a39a", "BHsdN0/zoQTVGFyheDJYH60="},
	{"24c93b9c1316b5936cb2b30f3d3ed9b2", "3d5c42f23511f1b8311a1f3b6c50c63e", "BSTJO5wTFrWTbLKzDz0+2bI="},
	{"cbcc9eb11166de8b310e27f725588d83", "988f062f1e819f51dd966c585654e9a2", "BsvMnrERZt6LMQ4n9yVYjYM="},
	{"d9022ed60fa9126b529108c1438717cb", "764e160e460c654b470506891512af81", "B9kCLtYPqRJrUpEIwUOHF8s="},
	{"82aefc9c05fc781954cdd72117150af4", "e24704c8d54db70959bd346afdae9049", "CIKu/JwF/HgZVM3XIRcVCvQ="},
}

func TestP8_1PublicValues(t *testing.T) {
	for i, want := range publics {
		height := i + 1
		p, e := signer.Secret{Seed: countingSeed(), Height: height}.Public()
		if p.Height != height || p.Root != valueOf(t, want.root) || e != api.OK {
			t.Errorf("Public at height %d = %d, %x, %d", height, p.Height, p.Root, e)
		}
		author, e := signer.Of(p)
		if author != api.Author(valueOf(t, want.author)) || e != api.OK {
			t.Errorf("Of the key of height %d = %x, %d", height, author, e)
		}
	}
	p, e := signer.Secret{Height: 1}.Public()
	if p.Root != valueOf(t, "490d81c71926e3dcbac29b4f24545f76") || e != api.OK {
		t.Errorf("Public of a seed of zeros = %x, %d", p.Root, e)
	}
}

func TestP8_1Public(t *testing.T) {
	for n := range 12 {
		s := signer.Secret{Seed: seedOf(n), Height: 1 + n%7}
		if p, e := s.Public(); p != newModel(s).public() || e != api.OK {
			t.Errorf("Public of %v = %v, %d", s, p, e)
		}
	}
	for bit := range 256 { // each bit of the seed counts
		s := signer.Secret{Height: 1}
		s.Seed[bit/8] = 1 << (bit % 8)
		if p, e := s.Public(); p != newModel(s).public() || e != api.OK {
			t.Errorf("Public of %v = %v, %d", s, p, e)
		}
	}
}

func TestP8_1Of(t *testing.T) {
	random := rand.New(rand.NewSource(81))
	for height := 1; height <= 8; height++ {
		for range 20 {
			p := signer.Public{Height: height, Root: randomDigest(random)}
			if got, e := signer.Of(p); got != api.Author(hash([]byte{byte(height)}, p.Root[:])) || e != api.OK {
				t.Errorf("Of(%v) = %x, %d", p, got, e)
			}
		}
	}
}

// TestP8_2Sign compares the signatures with all leaves of low trees, and with some of high ones, with the model.
func TestP8_2Sign(t *testing.T) {
	random := rand.New(rand.NewSource(82))
	for height := 1; height <= 8; height++ {
		s := signer.Secret{Seed: seedOf(height), Height: height}
		m := newModel(s)
		leaves := []int{0, 1, 1<<height/3 + 1, 1<<height - 2, 1<<height - 1}
		for leaf := 2; height <= 4 && leaf < 1<<height; leaf++ {
			leaves = append(leaves, leaf)
		}
		for _, leaf := range leaves {
			digest := randomDigest(random)
			g, e := signer.Sign(s, leaf, digest)
			if want := m.sign(leaf, digest); !same(g, want) || e != api.OK {
				t.Fatalf("Sign(%v, %d, %x) = %v, %d, want %v", s, leaf, digest, g, e, want)
			}
			if e := signer.Verify(m.public(), digest, g); e != api.OK {
				t.Fatalf("Verify(%v, %x, %v) = %d", m.public(), digest, g, e)
			}
		}
	}
}

func TestP8_2SignDigests(t *testing.T) {
	s := signer.Secret{Seed: seedOf(82), Height: 2}
	m := newModel(s)
	for bit := range 128 {
		for _, rest := range []byte{0, 0xFF} {
			var digest [16]byte
			for i := range digest {
				digest[i] = rest
			}
			digest[bit/8] ^= 1 << (bit % 8)
			if g, e := signer.Sign(s, bit%4, digest); !same(g, m.sign(bit%4, digest)) || e != api.OK {
				t.Fatalf("Sign(%v, %d, %x) = %v, %d", s, bit%4, digest, g, e)
			}
		}
	}
}

func TestP8_2SignErrors(t *testing.T) {
	check := func(s signer.Secret, leaf int) {
		t.Helper()
		if g, e := signer.Sign(s, leaf, [16]byte{1}); !isZero(g) || e != api.ErrRange {
			t.Errorf("Sign(%v, %d, digest) = %v, %d", s, leaf, g, e)
		}
	}
	for _, height := range badHeights {
		for _, leaf := range []int{0, -1, 300, math.MaxInt} {
			check(signer.Secret{Height: height}, leaf)
		}
	}
	for height := 1; height <= 8; height++ {
		for _, leaf := range []int{-1, -2, 1 << height, 1<<height + 1, 1<<32 + 1, 65536, math.MaxInt, math.MinInt} {
			check(signer.Secret{Seed: seedOf(1), Height: height}, leaf)
		}
	}
}

// TestP8_2Root has signatures of which nobody knows the secret key.
func TestP8_2Root(t *testing.T) {
	random := rand.New(rand.NewSource(822))
	for height := 1; height <= 8; height++ {
		for leaf := range 1 << height {
			digest, g := randomDigest(random), forged(random, leaf, height)
			want := rootOf(digest, g)
			if root, e := signer.Root(digest, g); root != want || e != api.OK {
				t.Fatalf("Root(%x, %v) = %x, %d, want %x", digest, g, root, e, want)
			}
			if e := signer.Verify(signer.Public{Height: height, Root: want}, digest, g); e != api.OK {
				t.Fatalf("Verify(%x, %v) = %d", digest, g, e)
			}
		}
	}
}

func TestP8_2RootErrors(t *testing.T) {
	random := rand.New(rand.NewSource(8222))
	good := signer.Public{Height: 2, Root: [16]byte{1}}
	for _, c := range []struct{ leaf, nodes int }{{0, 0}, {1, 0}, {-1, 0}, {0, 9}, {256, 9}, {0, 10}, {0, 70}, {-1, 1}, {2, 1}, {3, 1}, {4, 2}, {-1, 8}, {256, 8}, {math.MaxInt, 8}, {math.MinInt, 8}, {65536, 8}} {
		digest, g := randomDigest(random), forged(random, c.leaf, c.nodes)
		if root, e := signer.Root(digest, g); root != (value{}) || e != api.ErrRange {
			t.Errorf("Root with the leaf %d and %d nodes = %x, %d", c.leaf, c.nodes, root, e)
		}
		if e := signer.Verify(good, digest, g); e != api.ErrRange {
			t.Errorf("Verify with the leaf %d and %d nodes = %d", c.leaf, c.nodes, e)
		}
		if e := signer.Verify(signer.Public{}, digest, g); e != api.ErrRange {
			t.Errorf("Verify with no key, the leaf %d and %d nodes = %d", c.leaf, c.nodes, e)
		}
	}
}

// TestP8_2NoNodes is a detail of the chapter: a path without nodes is refused, although its leaf node is the root.
func TestP8_2NoNodes(t *testing.T) {
	random := rand.New(rand.NewSource(83))
	digest, g := randomDigest(random), forged(random, 0, 0)
	for height := range 9 {
		if e := signer.Verify(signer.Public{Height: height, Root: rootOf(digest, g)}, digest, g); e != api.ErrRange {
			t.Errorf("Verify at height %d = %d", height, e)
		}
	}
	if root, e := signer.Root(digest, g); root != (value{}) || e != api.ErrRange {
		t.Errorf("Root = %x, %d", root, e)
	}
}

func TestP8_2Verify(t *testing.T) {
	random := rand.New(rand.NewSource(84))
	digest := randomDigest(random)
	for height := 1; height <= 8; height++ {
		g := forged(random, 1, height)
		p := signer.Public{Height: height, Root: rootOf(digest, g)}
		for bit := range 128 {
			other, changed := digest, p
			other[bit/8] ^= 1 << (bit % 8)
			changed.Root[bit/8] ^= 1 << (bit % 8)
			if e := signer.Verify(p, other, g); e != api.ErrSignature {
				t.Errorf("Verify of another digest = %d", e)
			}
			if e := signer.Verify(changed, digest, g); e != api.ErrSignature {
				t.Errorf("Verify with another root = %d", e)
			}
		}
		for other := range 9 { // the root fits, but the height does not
			want := api.ErrSignature
			if other == height {
				want = api.OK
			} else if other == 0 {
				want = api.ErrRange
			}
			if e := signer.Verify(signer.Public{Height: other, Root: p.Root}, digest, g); e != want {
				t.Errorf("Verify of %d nodes at height %d = %d, want %d", height, other, e, want)
			}
		}
		for _, bad := range badHeights {
			if e := signer.Verify(signer.Public{Height: bad, Root: p.Root}, digest, g); e != api.ErrRange {
				t.Errorf("Verify at height %d = %d", bad, e)
			}
		}
	}
}

func TestP8_6Equal(t *testing.T) {
	random := rand.New(rand.NewSource(86))
	for height := range 10 {
		g := forged(random, 1, height)
		check := func(name string, h signer.Signature, want bool) {
			t.Helper()
			if signer.Equal(g, h) != want || signer.Equal(h, g) != want {
				t.Errorf("with %d nodes: Equal of %s is not %t", height, name, want)
			}
		}
		check("itself", g, true)
		check("a copy", clone(g), true)
		for _, leaf := range []int{0, 2, -1, 257, 65537, 1<<32 + 1} {
			h := clone(g)
			h.Leaf = leaf
			check("another leaf", h, false)
		}
		for number := range g.Chains {
			h := clone(g)
			h.Chains[number][number%16] ^= 1
			check("another value", h, false)
		}
		for k := range g.Path {
			h := clone(g)
			h.Path[k][k] ^= 0x80
			check("another node", h, false)
			h.Path = g.Path[:k]
			check("a shorter path", h, false)
		}
		h := clone(g)
		h.Path = append(h.Path, [16]byte{})
		check("a longer path", h, false)
	}
	var none signer.Signature
	if !signer.Equal(none, signer.Signature{Path: [][16]byte{}}) || !signer.Equal(none, none) {
		t.Error("a nil path and an empty one are different")
	}
}

// TestP8_7Fits checks that what Sign returns fits the public key, and nothing else that is like it.
func TestP8_7Fits(t *testing.T) {
	random := rand.New(rand.NewSource(87))
	for height := 1; height <= 8; height++ {
		s := signer.Secret{Seed: seedOf(100 + height), Height: height}
		p, _ := s.Public()
		leaf, digest := random.Intn(1<<height), randomDigest(random)
		g, e := signer.Sign(s, leaf, digest)
		if f := signer.Verify(p, digest, g); e != api.OK || f != api.OK {
			t.Fatalf("height %d: Sign %d, Verify %d", height, e, f)
		}
		if root, e := signer.Root(digest, g); root != p.Root || e != api.OK {
			t.Errorf("height %d: Root = %x, %d", height, root, e)
		}
		refuse := func(name string, digest [16]byte, h signer.Signature, want api.Errno) {
			t.Helper()
			if e := signer.Verify(p, digest, h); e != want {
				t.Errorf("height %d: Verify of %s = %d, want %d", height, name, e, want)
			}
		}
		for number := range g.Chains {
			h := clone(g)
			h.Chains[number][number%16] ^= 0x10
			refuse("a changed value", digest, h, api.ErrSignature)
		}
		for k := range g.Path {
			h := clone(g)
			h.Path[k][15-k] ^= 1
			refuse("a changed node", digest, h, api.ErrSignature)
		}
		other := clone(g)
		other.Leaf ^= 1
		refuse("another leaf", digest, other, api.ErrSignature)
		refuse("another digest", randomDigest(random), g, api.ErrSignature)
		short, long := clone(g), clone(g)
		short.Leaf, short.Path = 0, short.Path[1:]
		long.Path = append(long.Path, [16]byte{})
		wantShort, wantLong := api.ErrSignature, api.ErrSignature
		if height == 1 {
			wantShort = api.ErrRange
		} else if height == 8 {
			wantLong = api.ErrRange
		}
		refuse("a shorter path", digest, short, wantShort)
		refuse("a longer path", digest, long, wantLong)
	}
}

// TestP8_7NewMemory checks that arguments are neither modified nor retained, and that results are new.
func TestP8_7NewMemory(t *testing.T) {
	s := signer.Secret{Seed: seedOf(7), Height: 3}
	m, digest := newModel(s), [16]byte{1, 2, 3}
	g, _ := signer.Sign(s, 2, digest)
	want := m.sign(2, digest)
	g.Path = append(g.Path, [16]byte{1})[:3]
	before := slices.Clone(g.Path)
	signer.Root(digest, g)
	signer.Verify(m.public(), digest, g)
	text, _ := signer.SignatureText(g)
	signer.Break(m.public(), digest, g, [16]byte{9}, m.sign(2, [16]byte{9}))
	if !slices.Equal(g.Path, before) || g.Path[:4][3] != ([16]byte{1}) || !same(g, want) {
		t.Errorf("an argument was changed: %v", g)
	}
	one, _ := signer.ParseSignature(text)
	two, _ := signer.ParseSignature(text)
	a, _ := signer.New(s, 0)
	first, _ := a.Sign(digest)
	for _, path := range [][][16]byte{one.Path, first.Path, g.Path} {
		for k := range path {
			path[k] = [16]byte{0xEE}
		}
	}
	if !same(two, want) {
		t.Errorf("two results share memory: %v", two)
	}
	second, _ := a.Sign(digest)
	b, _ := signer.New(s, 0)
	again, _ := b.Sign(digest)
	if !same(second, m.sign(1, digest)) || !same(again, m.sign(0, digest)) || a.Public() != m.public() {
		t.Error("a signer shares memory with its results")
	}
}
