package signer_test

import (
	"math"
	"math/rand"
	"testing"

	"bulletin/api"
	"bulletin/signer"
)

// checkState compares a signer with a public key and a next leaf.
func checkState(t *testing.T, s *signer.Signer, p signer.Public, next int) {
	t.Helper()
	left := 1<<p.Height - 1 - next
	if left < 0 {
		left = 0
	}
	if s.Next() != next || s.Left() != left || s.Public() != p {
		t.Fatalf("Next %d, Left %d, Public %v, want %d, %d, %v", s.Next(), s.Left(), s.Public(), next, left, p)
	}
}

func TestP8_3New(t *testing.T) {
	for height := 1; height <= 8; height++ {
		secret := signer.Secret{Seed: seedOf(height), Height: height}
		p, _ := secret.Public()
		for _, next := range []int{0, 1, 1<<height - 1, 1 << height} {
			s, e := signer.New(secret, next)
			if s == nil || e != api.OK {
				t.Fatalf("New at height %d from %d on = %v, %d", height, next, s, e)
			}
			checkState(t, s, p, next)
		}
		for _, next := range []int{-1, -2, 1<<height + 1, 1<<height + 2, 1<<32 + 1, 65536, math.MaxInt, math.MinInt} {
			if s, e := signer.New(secret, next); s != nil || e != api.ErrRange {
				t.Errorf("New at height %d from %d on = %v, %d", height, next, s, e)
			}
		}
	}
	for _, height := range badHeights {
		for _, next := range []int{0, -1, 1, math.MaxInt} {
			if s, e := signer.New(signer.Secret{Height: height}, next); s != nil || e != api.ErrRange {
				t.Errorf("New at height %d from %d on = %v, %d", height, next, s, e)
			}
		}
	}
}

// TestP8_3All signs with every leaf of trees of all heights, and compares with the model.
func TestP8_3All(t *testing.T) {
	random := rand.New(rand.NewSource(83))
	for height := 1; height <= 8; height++ {
		m := newModel(signer.Secret{Seed: seedOf(30 + height), Height: height})
		s, _ := signer.New(m.secret, 0)
		last := 1<<height - 1
		for leaf := range last {
			checkState(t, s, m.public(), leaf)
			digest := randomDigest(random)
			if g, e := s.Sign(digest); !same(g, m.sign(leaf, digest)) || e != api.OK {
				t.Fatalf("height %d: Sign with the leaf %d = %v, %d", height, leaf, g, e)
			}
		}
		for range 2 {
			checkState(t, s, m.public(), last)
			if g, e := s.Sign([16]byte{1}); !isZero(g) || e != api.ErrUsed {
				t.Fatalf("height %d: Sign with the last leaf = %v, %d", height, g, e)
			}
		}
		digest := randomDigest(random)
		if g, e := s.Last(digest); !same(g, m.sign(last, digest)) || e != api.OK {
			t.Fatalf("height %d: Last = %v, %d", height, g, e)
		}
		for range 2 {
			checkState(t, s, m.public(), last+1)
			if g, e := s.Last(digest); !isZero(g) || e != api.ErrUsed {
				t.Fatalf("height %d: Last once more = %v, %d", height, g, e)
			}
			if g, e := s.Sign(digest); !isZero(g) || e != api.ErrUsed {
				t.Fatalf("height %d: Sign after Last = %v, %d", height, g, e)
			}
		}
	}
}

// TestP8_3Starts has signers that begin with each leaf, of which some use the last one at once.
func TestP8_3Starts(t *testing.T) {
	m := newModel(signer.Secret{Seed: seedOf(3), Height: 3})
	digest := [16]byte{3}
	for next := range 9 {
		s, _ := signer.New(m.secret, next)
		g, e := s.Sign(digest)
		if next < 7 && (!same(g, m.sign(next, digest)) || e != api.OK) || next >= 7 && (!isZero(g) || e != api.ErrUsed) {
			t.Errorf("Sign from %d on = %v, %d", next, g, e)
		}
		checkState(t, s, m.public(), max(next, min(next+1, 7)))
		s, _ = signer.New(m.secret, next)
		g, e = s.Last(digest)
		if next < 8 && (!same(g, m.sign(7, digest)) || e != api.OK) || next == 8 && (!isZero(g) || e != api.ErrUsed) {
			t.Errorf("Last from %d on = %v, %d", next, g, e)
		}
		checkState(t, s, m.public(), 8)
	}
}

func TestP8_3Skip(t *testing.T) {
	for height := 1; height <= 3; height++ {
		secret := signer.Secret{Seed: seedOf(1), Height: height}
		p, _ := secret.Public()
		end := 1 << height
		for next := range end + 1 {
			for _, leaf := range []int{math.MinInt, -1, 0, 1, next - 1, next, next + 1, end - 1, end, end + 1, end + 2, 1 << 32, math.MaxInt} {
				s, _ := signer.New(secret, next)
				want, after := api.OK, leaf
				if leaf > end {
					want, after = api.ErrRange, next
				} else if leaf < next {
					want, after = api.ErrSequence, next
				}
				if e := s.Skip(leaf); e != want {
					t.Errorf("height %d: Skip(%d) from %d = %d, want %d", height, leaf, next, e, want)
				}
				checkState(t, s, p, after)
			}
		}
	}
}

func TestP8_3Nil(t *testing.T) {
	var s *signer.Signer
	if g, e := s.Sign([16]byte{1}); !isZero(g) || e != api.ErrArgument {
		t.Errorf("Sign = %v, %d", g, e)
	}
	if g, e := s.Last([16]byte{1}); !isZero(g) || e != api.ErrArgument {
		t.Errorf("Last = %v, %d", g, e)
	}
	for _, leaf := range []int{-1, 0, 1, 256, 257, math.MaxInt} {
		if e := s.Skip(leaf); e != api.ErrArgument {
			t.Errorf("Skip(%d) = %d", leaf, e)
		}
	}
	if s.Next() != 0 || s.Left() != 0 || s.Public() != (signer.Public{}) {
		t.Errorf("Next %d, Left %d, Public %v", s.Next(), s.Left(), s.Public())
	}
}

// TestP8_3Example1 is the first example of the chapter.
func TestP8_3Example1(t *testing.T) {
	secret := signer.Secret{Seed: seedOf(2), Height: 2}
	s, _ := signer.New(secret, 0)
	if s.Left() != 3 {
		t.Errorf("Left = %d", s.Left())
	}
	for leaf := range 3 {
		if g, e := s.Sign([16]byte{byte(leaf)}); g.Leaf != leaf || e != api.OK {
			t.Errorf("Sign uses the leaf %d, %d", g.Leaf, e)
		}
	}
	if g, e := s.Last([16]byte{3}); g.Leaf != 3 || e != api.OK {
		t.Errorf("Last uses the leaf %d, %d", g.Leaf, e)
	}
	s, _ = signer.New(secret, 0)
	if e := s.Skip(2); e != api.OK || s.Left() != 1 {
		t.Errorf("Skip(2) = %d, Left %d", e, s.Left())
	}
	if g, e := s.Sign([16]byte{4}); g.Leaf != 2 || e != api.OK {
		t.Errorf("Sign uses the leaf %d, %d", g.Leaf, e)
	}
	if _, e := s.Sign([16]byte{5}); e != api.ErrUsed {
		t.Errorf("Sign once more = %d", e)
	}
}

// TestP8_7Once performs operations in any order: no leaf is used twice, and the last one only by Last.
func TestP8_7Once(t *testing.T) {
	random := rand.New(rand.NewSource(877))
	for round := range 120 {
		height := 1 + random.Intn(4)
		secret := signer.Secret{Seed: seedOf(round), Height: height}
		p, _ := secret.Public()
		next, end := random.Intn(1<<height+1), 1<<height
		s, _ := signer.New(secret, next)
		used := map[int]bool{}
		use := func(g signer.Signature, e api.Errno, last bool) {
			t.Helper()
			if e == api.OK && (used[g.Leaf] || last != (g.Leaf == end-1)) {
				t.Fatalf("the leaf %d is used, which should not", g.Leaf)
			}
			used[g.Leaf] = used[g.Leaf] || e == api.OK
		}
		for range 25 {
			switch digest := randomDigest(random); random.Intn(8) {
			case 0:
				g, e := s.Last(digest)
				use(g, e, true)
				if (e == api.OK) != (next < end) || e == api.OK && signer.Verify(p, digest, g) != api.OK {
					t.Fatalf("Last at %d = %d", next, e)
				}
				next = end
			case 1, 2:
				leaf := random.Intn(end+3) - 1
				if e := s.Skip(leaf); e == api.OK {
					next = leaf
				}
			default:
				g, e := s.Sign(digest)
				use(g, e, false)
				if (e == api.OK) != (next < end-1) || e == api.OK && (g.Leaf != next || signer.Verify(p, digest, g) != api.OK) {
					t.Fatalf("Sign at %d = %d", next, e)
				}
				if e == api.OK {
					next++
				}
			}
			checkState(t, s, p, next)
		}
	}
}

// TestP8_7Independent checks that signers of the same key share nothing.
func TestP8_7Independent(t *testing.T) {
	secret := signer.Secret{Seed: seedOf(9), Height: 2}
	p, _ := secret.Public()
	a, _ := signer.New(secret, 0)
	b, _ := signer.New(secret, 1)
	a.Sign([16]byte{1})
	a.Sign([16]byte{2})
	checkState(t, a, p, 2)
	checkState(t, b, p, 1)
	b.Last([16]byte{3})
	checkState(t, a, p, 2)
	checkState(t, b, p, 4)
}
