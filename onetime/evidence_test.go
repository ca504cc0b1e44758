package onetime_test

import (
	"math"
	"testing"

	"bulletin/api"
	"bulletin/onetime"
)

// preimage returns correct evidence: a value of a chain and a later one.
func preimage(leaf, chain, from, to int) onetime.Evidence {
	a := someValue("preimage", chain)
	return onetime.Evidence{Kind: onetime.Preimage, Chain: chain, From: from, To: to, A: a, B: chainFrom(leaf, chain, from, a)[to-from]}
}

// TestP7_4Preimage checks all pairs of steps, of which only those are correct that increase.
func TestP7_4Preimage(t *testing.T) {
	for _, leaf := range goodLeaves {
		for _, chain := range []int{0, 1, 31, 32, 34} {
			for from := range 16 {
				for to := from + 1; to < 16; to++ {
					if e := preimage(leaf, chain, from, to); !e.Check(leaf) {
						t.Fatalf("from the step %d of chain %d to %d: Check(%d) is false", from, chain, to, leaf)
					}
				}
				if e := preimage(leaf, chain, from, from); e.Check(leaf) {
					t.Fatalf("a preimage without steps at %d is correct", from)
				}
			}
		}
	}
}

// TestP7_4PreimageChanges changes one field after the other.
func TestP7_4PreimageChanges(t *testing.T) {
	good := preimage(9, 20, 3, 8)
	if !good.Check(9) {
		t.Fatal("the evidence is not correct")
	}
	for name, change := range map[string]func(e *onetime.Evidence){
		"another kind":       func(e *onetime.Evidence) { e.Kind = onetime.Collision },
		"a third kind":       func(e *onetime.Evidence) { e.Kind = onetime.Ends },
		"no kind":            func(e *onetime.Evidence) { e.Kind = 0 },
		"a kind that is not": func(e *onetime.Evidence) { e.Kind = 4 },
		"a negative kind":    func(e *onetime.Evidence) { e.Kind = -1 },
		"a great kind":       func(e *onetime.Evidence) { e.Kind = 1<<32 + 1 },
		"another chain":      func(e *onetime.Evidence) { e.Chain = 19 },
		"a chain modulo 256": func(e *onetime.Evidence) { e.Chain = 20 + 256 },
		"a negative chain":   func(e *onetime.Evidence) { e.Chain = -1 },
		"chain 35": func(e *onetime.Evidence) {
			*e = onetime.Evidence{Kind: 1, Chain: 35, From: 3, To: 4, A: e.A, B: nextValue(9, 35, 3, e.A)}
		},
		"an earlier step":     func(e *onetime.Evidence) { e.From = 2 },
		"a later step":        func(e *onetime.Evidence) { e.From = 4 },
		"a negative step":     func(e *onetime.Evidence) { e.From = -1 },
		"an earlier end":      func(e *onetime.Evidence) { e.To = 7 },
		"a later end":         func(e *onetime.Evidence) { e.To = 9 },
		"steps the other way": func(e *onetime.Evidence) { e.From, e.To = 8, 3 },
		"no steps":            func(e *onetime.Evidence) { e.To = 3; e.B = e.A },
		"no steps to B":       func(e *onetime.Evidence) { e.From = 8; e.A = e.B },
		"the step 16": func(e *onetime.Evidence) {
			*e = onetime.Evidence{Kind: 1, Chain: 1, From: 15, To: 16, A: e.A, B: nextValue(9, 1, 15, e.A)}
		},
		"the step -1": func(e *onetime.Evidence) {
			*e = onetime.Evidence{Kind: 1, Chain: 1, From: -1, To: 0, A: e.A, B: nextValue(9, 1, -1, e.A)}
		},
		"a great step":         func(e *onetime.Evidence) { e.To = math.MaxInt },
		"the least step":       func(e *onetime.Evidence) { e.From = math.MinInt },
		"another A":            func(e *onetime.Evidence) { e.A[0]++ },
		"another B":            func(e *onetime.Evidence) { e.B[15]++ },
		"A and B exchanged":    func(e *onetime.Evidence) { e.A, e.B = e.B, e.A },
		"a value in First":     func(e *onetime.Evidence) { e.First[0][0] = 1 },
		"a last one in First":  func(e *onetime.Evidence) { e.First[34][15] = 1 },
		"a value in Second":    func(e *onetime.Evidence) { e.Second[0][0] = 1 },
		"a last one in Second": func(e *onetime.Evidence) { e.Second[34][15] = 1 },
		"the same in both":     func(e *onetime.Evidence) { e.First[3][3], e.Second[3][3] = 1, 1 },
	} {
		bad := good
		change(&bad)
		if bad.Check(9) {
			t.Errorf("%s: %v is correct", name, bad)
		}
	}
}

func TestP7_4Leaves(t *testing.T) {
	good := preimage(9, 20, 3, 8)
	for _, leaf := range append([]int{8, 10, 0, 265, 65535, 9 + 65536, 9 + 1<<32}, badLeaves...) {
		if good.Check(leaf) {
			t.Errorf("Check(%d) is true", leaf)
		}
	}
	for _, leaf := range badLeaves {
		if preimage(leaf, 20, 3, 8).Check(leaf) {
			t.Errorf("Check(%d) of evidence for this leaf is true", leaf)
		}
	}
}

// TestP7_4Others checks evidence of the other kinds that states nothing true; package collisions has the rest.
func TestP7_4Others(t *testing.T) {
	a, b := someValue("a", 0), someValue("b", 0)
	var ends, others [35]onetime.Value
	ends[3], others[3] = a, b
	for name, e := range map[string]onetime.Evidence{
		"zero evidence":                {},
		"a preimage of zeros":          {Kind: onetime.Preimage},
		"a collision of zeros":         {Kind: onetime.Collision, To: 1},
		"a collision of equal values":  {Kind: onetime.Collision, Chain: 3, From: 2, To: 3, A: a, B: a},
		"a collision that is none":     {Kind: onetime.Collision, Chain: 3, From: 2, To: 3, A: a, B: b},
		"a collision at the end":       {Kind: onetime.Collision, Chain: 3, From: 15, To: 16, A: a, B: b},
		"a collision at the end, of 0": {Kind: onetime.Collision, Chain: 3, From: 15, To: 16},
		"a collision of no chain":      {Kind: onetime.Collision, Chain: 35, From: 1, To: 2, A: a, B: b},
		"a collision from -1":          {Kind: onetime.Collision, Chain: 3, From: -1, To: 0, A: a, B: b},
		"a collision in the distance":  {Kind: onetime.Collision, Chain: 3, From: math.MaxInt, To: math.MinInt, A: a, B: b},
		"ends of zeros":                {Kind: onetime.Ends},
		"equal ends":                   {Kind: onetime.Ends, First: ends, Second: ends},
		"different ends":               {Kind: onetime.Ends, First: ends, Second: others},
		"no kind":                      {A: a, B: b},
		"another kind":                 {Kind: 4, First: ends, Second: others},
	} {
		for _, leaf := range []int{0, 9, 65535, -1, 65536} {
			if e.Check(leaf) {
				t.Errorf("%s: Check(%d) is true", name, leaf)
			}
		}
	}
}

// TestP7_5Preimage extracts what two signatures with the same seed and leaf reveal.
func TestP7_5Preimage(t *testing.T) {
	digests, chains := someDigests(), map[int]bool{}
	for n := range digests {
		for _, k := range []int{1, 2, 3, 17} {
			leaf, first, second := goodLeaves[n%len(goodLeaves)], digests[n], digests[(n+k)%len(digests)]
			s, _ := signed(someSeed(n), leaf, first)
			r, _ := signed(someSeed(n), leaf, second)
			c, _ := lowest(first, second)
			want := onetime.Evidence{Kind: onetime.Preimage, Chain: c, From: digitsOf(second)[c], To: digitsOf(first)[c], A: r[c], B: s[c]}
			got, e := onetime.Extract(leaf, first, s, second, r)
			if got != want || e != api.OK {
				t.Fatalf("Extract(%d, %x, s, %x, t) = %v, %d, want %v", leaf, first, second, got, e, want)
			}
			if !got.Check(leaf) {
				t.Errorf("Extract(%d, %x, s, %x, t): the evidence is not correct", leaf, first, second)
			}
			chains[c] = true
		}
	}
	if len(chains) < 6 {
		t.Errorf("the evidence is about the chains %v only", chains)
	}
}

// TestP7_5AnySignature extracts from signatures that nobody has signed, but with the same ends.
func TestP7_5AnySignature(t *testing.T) {
	first, second := [16]byte{0x35}, [16]byte{0x31, 0x20}
	a, b := digitsOf(first), digitsOf(second)
	var s, r onetime.Signature
	for chain := range 35 {
		values := chainFrom(6, chain, min(a[chain], b[chain]), someValue("any", chain))
		s[chain], r[chain] = values[max(0, a[chain]-b[chain])], values[max(0, b[chain]-a[chain])]
	}
	got, e := onetime.Extract(6, first, s, second, r)
	if want := (onetime.Evidence{Kind: onetime.Preimage, Chain: 1, From: 1, To: 5, A: r[1], B: s[1]}); got != want || e != api.OK || !got.Check(6) {
		t.Errorf("Extract = %v, %d, want %v", got, e, want)
	}
	got, e = onetime.Extract(6, second, r, first, s)
	if want := (onetime.Evidence{Kind: onetime.Preimage, Chain: 2, From: 0, To: 2, A: s[2], B: r[2]}); got != want || e != api.OK || !got.Check(6) {
		t.Errorf("Extract the other way = %v, %d, want %v", got, e, want)
	}
}

func TestP7_5Errors(t *testing.T) {
	zero := onetime.Evidence{}
	one, two := someValue("digest", 1), someValue("digest", 2)
	s, _ := signed(someSeed(1), 5, one)
	r, _ := signed(someSeed(1), 5, two)
	other, _ := signed(someSeed(2), 5, two)
	later, _ := signed(someSeed(1), 6, two)
	check := func(name string, leaf int, first [16]byte, s onetime.Signature, second [16]byte, r onetime.Signature, want api.Errno) {
		t.Helper()
		if got, e := onetime.Extract(leaf, first, s, second, r); got != zero || e != want {
			t.Errorf("%s: Extract = %v, %d, want %d", name, got, e, want)
		}
	}
	for _, leaf := range badLeaves {
		check("a leaf out of range", leaf, one, s, two, r, api.ErrRange)
		check("a leaf out of range and equal digests", leaf, one, s, one, s, api.ErrRange)
		check("a leaf out of range and another key", leaf, one, s, two, other, api.ErrRange)
	}
	check("equal digests and signatures", 5, one, s, one, s, api.ErrDuplicate)
	check("equal digests", 5, one, s, one, r, api.ErrDuplicate)
	check("equal digests of different keys", 5, two, r, two, other, api.ErrDuplicate)
	check("equal digests of zeros", 5, [16]byte{}, s, [16]byte{}, other, api.ErrDuplicate)
	check("another key", 5, one, s, two, other, api.ErrSignature)
	check("another leaf of the key", 5, one, s, two, later, api.ErrSignature)
	check("a leaf that neither has signed with", 6, one, s, two, r, api.ErrSignature)
	check("the same signature twice", 5, one, s, two, s, api.ErrSignature)
	check("signatures exchanged", 5, one, r, two, s, api.ErrSignature)
	check("zero signatures", 5, one, onetime.Signature{}, two, onetime.Signature{}, api.ErrSignature)
	for chain := range s {
		changed := s
		changed[chain][chain%16] ^= 0x80
		check("a changed value in the first one", 5, one, changed, two, r, api.ErrSignature)
		check("a changed value in the second one", 5, two, r, one, changed, api.ErrSignature)
	}
}

// TestP7_6 checks that signatures lead to the public value of their seed and leaf, and that of two different digests neither has all digits at most those of the other one.
func TestP7_6(t *testing.T) {
	digests := someDigests()
	for n, leaf := range goodLeaves {
		public, e := onetime.Public(someSeed(n), leaf)
		if e != api.OK {
			t.Fatalf("Public(seed, %d): %d", leaf, e)
		}
		for _, digest := range digests {
			s, e := onetime.Sign(someSeed(n), leaf, digest)
			if v, f := onetime.Recover(leaf, digest, s); v != public || e != api.OK || f != api.OK {
				t.Fatalf("Recover(%d, %x, s) = %x, %d, %d, want %x", leaf, digest, v, e, f, public)
			}
		}
	}
	for _, a := range digests {
		for bit := range 128 {
			b := a
			b[bit/8] ^= 1 << (bit % 8)
			down, lower := onetime.Lower(a, b)
			up, higher := onetime.Lower(b, a)
			if !lower || !higher || down == up {
				t.Fatalf("%x and %x: %d, %t and %d, %t", a, b, down, lower, up, higher)
			}
		}
	}
}
