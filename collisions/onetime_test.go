package collisions_test

import (
	"encoding/binary"
	"math/rand"
	"slices"
	"testing"

	"bulletin/api"
	"bulletin/onetime"
)

func next(leaf, chain, step int, v onetime.Value) onetime.Value {
	b := binary.BigEndian.AppendUint32([]byte{3}, uint32(leaf))
	return weak(slices.Concat(b, []byte{byte(chain), byte(step)}, v[:]))
}

// advanced returns a value advanced to a later step.
func advanced(leaf, chain, from, to int, v onetime.Value) onetime.Value {
	for step := from; step < to; step++ {
		v = next(leaf, chain, step, v)
	}
	return v
}

func publicOf(leaf int, ends [35]onetime.Value) onetime.Value {
	b := binary.BigEndian.AppendUint32([]byte{4}, uint32(leaf))
	for _, end := range ends {
		b = append(b, end[:]...)
	}
	return weak(b)
}

// holds reports whether evidence is correct, by the words of P7.4.
func holds(e onetime.Evidence, leaf int) bool {
	var none [35]onetime.Value
	ofChain := e.First == none && e.Second == none && 0 <= e.Chain && e.Chain <= 34
	switch {
	case leaf < 0 || leaf > 65535:
		return false
	case e.Kind == 1:
		return ofChain && 0 <= e.From && e.From < e.To && e.To <= 15 && advanced(leaf, e.Chain, e.From, e.To, e.A) == e.B
	case e.Kind == 2:
		return ofChain && e.A != e.B && 0 <= e.From && e.From <= 14 && e.To == e.From+1 && next(leaf, e.Chain, e.From, e.A) == next(leaf, e.Chain, e.From, e.B)
	case e.Kind == 3:
		zero := e.Chain == 0 && e.From == 0 && e.To == 0 && e.A == onetime.Value{} && e.B == onetime.Value{}
		return zero && e.First != e.Second && publicOf(leaf, e.First) == publicOf(leaf, e.Second)
	}
	return false
}

// extracted returns what P7.5 says of signatures of different digests, with a leaf in range.
func extracted(leaf int, first [16]byte, s onetime.Signature, second [16]byte, r onetime.Signature) (onetime.Evidence, api.Errno) {
	a, b := onetime.Split(first), onetime.Split(second)
	var endsS, endsR [35]onetime.Value
	for chain := range 35 {
		endsS[chain] = advanced(leaf, chain, a[chain], 15, s[chain])
		endsR[chain] = advanced(leaf, chain, b[chain], 15, r[chain])
	}
	if publicOf(leaf, endsS) != publicOf(leaf, endsR) {
		return onetime.Evidence{}, api.ErrSignature
	}
	if endsS != endsR {
		return onetime.Evidence{Kind: 3, First: endsS, Second: endsR}, api.OK
	}
	c := 0
	for b[c] >= a[c] {
		c++
	}
	if advanced(leaf, c, b[c], a[c], r[c]) == s[c] {
		return onetime.Evidence{Kind: 1, Chain: c, From: b[c], To: a[c], A: r[c], B: s[c]}, api.OK
	}
	for step := a[c]; ; step++ {
		x, y := advanced(leaf, c, a[c], step, s[c]), advanced(leaf, c, b[c], step, r[c])
		if x != y && next(leaf, c, step, x) == next(leaf, c, step, y) {
			return onetime.Evidence{Kind: 2, Chain: c, From: step, To: step + 1, A: x, B: y}, api.OK
		}
	}
}

func valueOf(n int) onetime.Value { return onetime.Value{byte(n)} }

func randomValue(random *rand.Rand) onetime.Value { return valueOf(random.Intn(values)) }

func randomDigest(random *rand.Rand) [16]byte {
	var digest [16]byte
	random.Read(digest[:])
	return digest
}

// alike returns some value at a step of a chain that leads to the same end as a given one.
func alike(random *rand.Rand, leaf, chain, step int, v onetime.Value) onetime.Value {
	end := advanced(leaf, chain, step, 15, v)
	for _, n := range random.Perm(values) {
		if advanced(leaf, chain, step, 15, valueOf(n)) == end {
			return valueOf(n)
		}
	}
	return v
}

// forge returns signatures of two digests that lead to the same ends, but not always by the same values.
func forge(random *rand.Rand, leaf int, first, second [16]byte) (s, r onetime.Signature) {
	a, b := onetime.Split(first), onetime.Split(second)
	for chain := range 35 {
		step := min(a[chain], b[chain])
		v := randomValue(random)
		s[chain], r[chain] = advanced(leaf, chain, step, a[chain], v), advanced(leaf, chain, step, b[chain], v)
		if random.Intn(3) > 0 {
			s[chain] = alike(random, leaf, chain, a[chain], s[chain])
			r[chain] = alike(random, leaf, chain, b[chain], r[chain])
		}
	}
	return s, r
}

// checkExtract compares Extract with the document, and returns the evidence.
func checkExtract(t *testing.T, leaf int, first [16]byte, s onetime.Signature, second [16]byte, r onetime.Signature) onetime.Evidence {
	t.Helper()
	want, wanted := extracted(leaf, first, s, second, r)
	got, e := onetime.Extract(leaf, first, s, second, r)
	if got != want || e != wanted {
		t.Fatalf("Extract(%d, %x, %x, %x, %x) = %v, %d, want %v, %d", leaf, first, s, second, r, got, e, want, wanted)
	}
	if e == api.OK && !got.Check(leaf) {
		t.Fatalf("Extract(%d, %x, %x, %x, %x) = %v, which is not correct", leaf, first, s, second, r, got)
	}
	return got
}

// TestP7_5Forged extracts from signatures that lead to the same ends.
func TestP7_5Forged(t *testing.T) {
	random := rand.New(rand.NewSource(75))
	kinds, later, last := map[int]int{}, 0, 0
	for range 4000 {
		leaf, first, second := random.Intn(65536), randomDigest(random), randomDigest(random)
		s, r := forge(random, leaf, first, second)
		got := checkExtract(t, leaf, first, s, second, r)
		kinds[got.Kind]++
		if got.Kind == onetime.Collision && got.From > onetime.Split(first)[got.Chain] {
			later++
		}
		if got.Kind == onetime.Collision && got.From == 14 {
			last++
		}
	}
	if kinds[onetime.Preimage] < 100 || kinds[onetime.Collision] < 100 || later < 100 || last < 10 {
		t.Errorf("the kinds are %v, %d collisions are at later steps, and %d at the last one", kinds, later, last)
	}
}

// TestP7_5Ends extracts from signatures that have nothing to do with each other.
func TestP7_5Ends(t *testing.T) {
	random := rand.New(rand.NewSource(755))
	kinds := map[int]int{}
	for range 2000 {
		leaf, first, second := random.Intn(65536), randomDigest(random), randomDigest(random)
		var s, r onetime.Signature
		for chain := range s {
			s[chain], r[chain] = randomValue(random), randomValue(random)
		}
		kinds[checkExtract(t, leaf, first, s, second, r).Kind]++
	}
	if kinds[onetime.Ends] < 100 || kinds[0] < 100 {
		t.Errorf("the kinds are %v", kinds)
	}
}

// TestP7_5Errors checks that the errors come first, although the signatures lead to the same public value.
func TestP7_5Errors(t *testing.T) {
	random := rand.New(rand.NewSource(7555))
	for range 200 {
		first, second := randomDigest(random), randomDigest(random)
		for _, leaf := range []int{-1, 65536, 1 << 32} {
			for _, digest := range [][16]byte{first, second} {
				s, r := forge(random, leaf, first, digest)
				if got, e := onetime.Extract(leaf, first, s, digest, r); got != (onetime.Evidence{}) || e != api.ErrRange {
					t.Fatalf("Extract with the leaf %d = %v, %d", leaf, got, e)
				}
			}
		}
		s, r := forge(random, 1, first, first)
		if got, e := onetime.Extract(1, first, s, first, r); got != (onetime.Evidence{}) || e != api.ErrDuplicate {
			t.Fatalf("Extract of equal digests = %v, %d", got, e)
		}
	}
}

// TestP7_6Forged checks that evidence can be extracted from any two signatures that are accepted.
func TestP7_6Forged(t *testing.T) {
	random := rand.New(rand.NewSource(76))
	seed, leaf, digest := [32]byte{7}, 3, randomDigest(random)
	public, _ := onetime.Public(seed, leaf)
	s, _ := onetime.Sign(seed, leaf, digest)
	accepted := 0
	for range 4000 {
		other := randomDigest(random)
		var r onetime.Signature
		for chain := range r {
			r[chain] = randomValue(random)
		}
		if !onetime.Verify(public, leaf, other, r) {
			continue
		}
		accepted++
		if got, e := onetime.Extract(leaf, digest, s, other, r); e != api.OK || !got.Check(leaf) {
			t.Fatalf("the signature %x of %x is accepted, but Extract = %v, %d", r, other, got, e)
		}
	}
	if accepted < 100 {
		t.Errorf("only %d forged signatures were accepted", accepted)
	}
}

// TestP7_4Chains compares Check with the document for all small evidence about one chain, and for what is out of range.
func TestP7_4Chains(t *testing.T) {
	correct := map[int]int{}
	for _, leaf := range []int{-1, 0, 300, 65535, 65536} {
		for _, kind := range []int{-1, 0, 1, 2, 3, 4} {
			for _, chain := range []int{-1, 0, 34, 35} {
				for from := -1; from <= 16; from++ {
					for to := -1; to <= 16; to++ {
						for n := range values * values {
							e := onetime.Evidence{Kind: kind, Chain: chain, From: from, To: to, A: valueOf(n / values), B: valueOf(n % values)}
							want := holds(e, leaf)
							if e.Check(leaf) != want {
								t.Fatalf("Check(%d) of %v is not %t", leaf, e, want)
							}
							if want {
								correct[kind]++
							}
						}
					}
				}
			}
		}
	}
	if correct[1] < 100 || correct[2] < 100 || len(correct) != 2 {
		t.Errorf("the numbers of correct evidence by kinds are %v", correct)
	}
}

// TestP7_4Collision checks that each field of a correct collision matters.
func TestP7_4Collision(t *testing.T) {
	found := 0
	for from := range 15 {
		for n := range values * values {
			good := onetime.Evidence{Kind: onetime.Collision, Chain: 5, From: from, To: from + 1, A: valueOf(n / values), B: valueOf(n % values)}
			if !good.Check(70) {
				continue
			}
			found++
			first, second, both, negative := good, good, good, good
			first.First[34][15] = 1
			second.Second[0][0] = 1
			both.First[1][1], both.Second[1][1] = 1, 1
			negative.Kind = -2
			for _, bad := range []onetime.Evidence{first, second, both, negative} {
				if bad.Check(70) {
					t.Fatalf("%v is correct", bad)
				}
			}
		}
	}
	if found < 20 {
		t.Errorf("only %d collisions", found)
	}
}

// TestP7_4Ends compares Check with the document for evidence about all ends.
func TestP7_4Ends(t *testing.T) {
	random := rand.New(rand.NewSource(74))
	correct := 0
	for range 2000 {
		good := onetime.Evidence{Kind: onetime.Ends}
		for chain := range good.First {
			good.First[chain], good.Second[chain] = randomValue(random), randomValue(random)
		}
		for _, leaf := range []int{0, 300, 65535, -1, 65536, 1 << 32} {
			if want := holds(good, leaf); good.Check(leaf) != want {
				t.Fatalf("Check(%d) of %v is not %t", leaf, good, want)
			}
		}
		if !good.Check(300) {
			continue
		}
		correct++
		for _, change := range []func(e *onetime.Evidence){
			func(e *onetime.Evidence) { e.Kind = onetime.Preimage },
			func(e *onetime.Evidence) { e.Kind = onetime.Collision },
			func(e *onetime.Evidence) { e.Kind = 0 },
			func(e *onetime.Evidence) { e.Chain = 1 },
			func(e *onetime.Evidence) { e.From = -1 },
			func(e *onetime.Evidence) { e.To = 1 },
			func(e *onetime.Evidence) { e.A[15] = 1 },
			func(e *onetime.Evidence) { e.B[0] = 1 },
			func(e *onetime.Evidence) { e.A[3], e.B[3] = 1, 1 },
			func(e *onetime.Evidence) { e.Second = e.First },
		} {
			bad := good
			change(&bad)
			if bad.Check(300) {
				t.Fatalf("%v is correct", bad)
			}
		}
	}
	if correct < 100 {
		t.Errorf("only %d correct pairs of ends", correct)
	}
}
