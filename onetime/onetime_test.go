package onetime_test

import (
	"bytes"
	standard "crypto/sha256"
	"encoding/binary"
	"encoding/hex"
	"math"
	"testing"

	"bulletin/api"
	"bulletin/onetime"
)

// hash is the hash of the document for bytes that begin with a number and a leaf.
func hash(tag byte, leaf int, parts ...[]byte) onetime.Value {
	b := binary.BigEndian.AppendUint32([]byte{tag}, uint32(leaf))
	d := standard.Sum256(append(b, bytes.Join(parts, nil)...))
	return onetime.Value(d[:16])
}

func firstValue(seed [32]byte, leaf, chain int) onetime.Value {
	return hash(2, leaf, []byte{byte(chain)}, seed[:])
}

func nextValue(leaf, chain, step int, v onetime.Value) onetime.Value {
	return hash(3, leaf, []byte{byte(chain), byte(step)}, v[:])
}

// chainFrom returns the values of a chain from a step to its end.
func chainFrom(leaf, chain, from int, v onetime.Value) []onetime.Value {
	values := []onetime.Value{v}
	for step := from; step < 15; step++ {
		v = nextValue(leaf, chain, step, v)
		values = append(values, v)
	}
	return values
}

func publicOf(leaf int, ends [35]onetime.Value) onetime.Value {
	var b []byte
	for _, end := range ends {
		b = append(b, end[:]...)
	}
	return hash(4, leaf, b)
}

// digitsOf returns the digits of a digest and of its checksum, from their texts in hexadecimal.
func digitsOf(digest [16]byte) [35]int {
	text := hex.EncodeToString(digest[:])
	sum := 0
	for _, c := range text {
		sum += 15 - bytes.IndexRune([]byte("0123456789abcdef"), c)
	}
	text += hex.EncodeToString([]byte{byte(sum >> 8), byte(sum)})[1:]
	var digits [35]int
	for i, c := range text {
		digits[i] = bytes.IndexRune([]byte("0123456789abcdef"), c)
	}
	return digits
}

// recovered returns the public value that a signature leads to.
func recovered(leaf int, digest [16]byte, s onetime.Signature) onetime.Value {
	var ends [35]onetime.Value
	for chain, digit := range digitsOf(digest) {
		values := chainFrom(leaf, chain, digit, s[chain])
		ends[chain] = values[len(values)-1]
	}
	return publicOf(leaf, ends)
}

// signed returns the signature of a digest and the public value of its leaf.
func signed(seed [32]byte, leaf int, digest [16]byte) (s onetime.Signature, public onetime.Value) {
	var ends [35]onetime.Value
	for chain, digit := range digitsOf(digest) {
		values := chainFrom(leaf, chain, 0, firstValue(seed, leaf, chain))
		s[chain], ends[chain] = values[digit], values[15]
	}
	return s, publicOf(leaf, ends)
}

// someValue returns a value that depends on a name and a number.
func someValue(name string, n int) onetime.Value {
	d := standard.Sum256(binary.BigEndian.AppendUint64([]byte(name), uint64(n)))
	return onetime.Value(d[:16])
}

func someSeed(n int) [32]byte {
	return standard.Sum256(binary.BigEndian.AppendUint64([]byte("seed"), uint64(n)))
}

// someSignature returns a signature that nobody has signed.
func someSignature(n int) onetime.Signature {
	var s onetime.Signature
	for chain := range s {
		s[chain] = someValue("chain", 35*n+chain)
	}
	return s
}

// someDigests returns digests with all kinds of digits: equal ones, single ones, and some without a pattern.
func someDigests() [][16]byte {
	var all [][16]byte
	for _, b := range []byte{0, 1, 0x10, 0x0F, 0xF0, 0x7A, 0xFE, 0xEF, 0xFF} {
		var digest [16]byte
		for i := range digest {
			digest[i] = b
		}
		all = append(all, digest)
		for _, place := range []int{0, 7, 15} {
			digest[place] ^= 0x21
			all = append(all, digest)
			digest[place] ^= 0x21
		}
	}
	for n := range 30 {
		all = append(all, someValue("digest", n))
	}
	return all
}

// The numbers that are out of range for a leaf, and some that are in it.
var (
	badLeaves  = []int{-1, 65536, 65537, -65536, 1 << 32, 1<<32 + 5, math.MaxInt, math.MinInt}
	goodLeaves = []int{0, 1, 5, 255, 256, 4660, 32768, 65534, 65535}
)

func valueOf(t *testing.T, text string) onetime.Value {
	t.Helper()
	b, err := hex.DecodeString(text)
	if err != nil || len(b) != 16 {
		t.Fatalf("%q is not a value", text)
	}
	return onetime.Value(b)
}

// countingSeed returns the seed with the bytes 0, 1, 2, and so on.
func countingSeed() [32]byte {
	var seed [32]byte
	for i := range seed {
		seed[i] = byte(i)
	}
	return seed
}

func TestP7_1Types(t *testing.T) {
	if onetime.Chains != 35 || onetime.Steps != 15 || onetime.Digits != 32 || onetime.MaxLeaf != 65535 {
		t.Error("the limits are not those of the document")
	}
	if onetime.Preimage != 1 || onetime.Collision != 2 || onetime.Ends != 3 {
		t.Error("the kinds are not those of the document")
	}
	var s [35][16]byte = onetime.Signature{}
	var v [16]byte = onetime.Value{}
	if len(s) != 35 || len(v) != 16 {
		t.Error("the sizes are not those of the document")
	}
}

// TestP7_1Split checks each byte at each place.
func TestP7_1Split(t *testing.T) {
	for place := range 16 {
		for b := range 256 {
			for _, rest := range []byte{0, 0x5C, 0xFF} {
				var digest [16]byte
				for i := range digest {
					digest[i] = rest
				}
				digest[place] = byte(b)
				if got, want := onetime.Split(digest), digitsOf(digest); got != want {
					t.Fatalf("Split(%x) = %v, want %v", digest, got, want)
				}
			}
		}
	}
	for _, digest := range someDigests() {
		if got, want := onetime.Split(digest), digitsOf(digest); got != want {
			t.Errorf("Split(%x) = %v, want %v", digest, got, want)
		}
	}
}

func TestP7_1SplitValues(t *testing.T) {
	got := onetime.Split(valueOf(t, "ba7816bf8f01cfea414140de5dae2223"))
	want := [35]int{11, 10, 7, 8, 1, 6, 11, 15, 8, 15, 0, 1, 12, 15, 14, 10, 4, 1, 4, 1, 4, 0, 13, 14, 5, 13, 10, 14, 2, 2, 2, 3, 0, 15, 4}
	if got != want {
		t.Errorf("Split = %v, want %v", got, want)
	}
	// Example 1 of the chapter, and the other end: no digit is missing anything.
	if got := onetime.Split([16]byte{}); got != [35]int{32: 1, 33: 14, 34: 0} {
		t.Errorf("Split of zeros = %v", got)
	}
	ones := onetime.Split(valueOf(t, "ffffffffffffffffffffffffffffffff"))
	for chain, digit := range ones {
		if want := 15; chain < 32 && digit != want || chain >= 32 && digit != 0 {
			t.Errorf("Split of ones = %v", ones)
			break
		}
	}
}

// lowest returns the smallest chain whose digit is lower for b than for a, searched from the end.
func lowest(a, b [16]byte) (found int, ok bool) {
	first, second := digitsOf(a), digitsOf(b)
	for chain := 34; chain >= 0; chain-- {
		if second[chain] < first[chain] {
			found, ok = chain, true
		}
	}
	return found, ok
}

func TestP7_1Lower(t *testing.T) {
	digests := someDigests()
	for _, a := range digests {
		for _, b := range digests {
			chain, ok := onetime.Lower(a, b)
			if want, wanted := lowest(a, b); chain != want || ok != wanted || ok == (a == b) {
				t.Fatalf("Lower(%x, %x) = %d, %t, want %d, %t", a, b, chain, ok, want, wanted)
			}
		}
	}
}

// TestP7_1LowerChains changes single digits by one, up and down.
func TestP7_1LowerChains(t *testing.T) {
	seen := map[int]bool{}
	for place := range 32 {
		for _, rest := range []byte{0x11, 0x88, 0xEE} {
			var a [16]byte
			for i := range a {
				a[i] = rest
			}
			b := a
			b[place/2] -= 1 << (4 * (1 - place%2))
			if chain, ok := onetime.Lower(a, b); chain != place || !ok {
				t.Errorf("Lower(%x, %x) = %d, %t, want %d", a, b, chain, ok, place)
			}
			chain, ok := onetime.Lower(b, a)
			if want, _ := lowest(b, a); chain != want || !ok || chain < 32 {
				t.Errorf("Lower(%x, %x) = %d, %t, want %d", b, a, chain, ok, want)
			}
			seen[chain] = true
		}
	}
	var low, high [16]byte
	high[0] = 1 // the checksum goes from 480 to 479
	for k := range 16 {
		low[0], high[0] = byte(k), byte(k+1)
		chain, ok := onetime.Lower(low, high)
		if want, _ := lowest(low, high); chain != want || !ok {
			t.Errorf("Lower(%x, %x) = %d, %t, want %d", low, high, chain, ok, want)
		}
		seen[chain] = true
	}
	if !seen[33] || !seen[34] {
		t.Errorf("the chains of the checksum that were found are %v", seen)
	}
}

// TestP7_1LowerFirstOfChecksum has checksums on both sides of 256, so that the first digit of the checksum decides.
func TestP7_1LowerFirstOfChecksum(t *testing.T) {
	var a [16]byte
	for i := range 14 {
		a[i] = 0x88 // 28 digits miss 196
	}
	b := a
	a[14], b[14] = 0, 0xFF // a: 196 + 60 = 256, b: 196 + 30 = 226
	if digits := onetime.Split(a); digits[32] != 1 || digits[33] != 0 || digits[34] != 0 {
		t.Fatalf("Split(%x) = %v", a, digits)
	}
	if chain, ok := onetime.Lower(a, b); chain != 32 || !ok {
		t.Errorf("Lower(%x, %x) = %d, %t, want 32", a, b, chain, ok)
	}
}

// TestP7_1Example2 is the second example of the chapter.
func TestP7_1Example2(t *testing.T) {
	a, b := [16]byte{}, [16]byte{15: 1}
	if digits := onetime.Split(b); digits[32] != 1 || digits[33] != 13 || digits[34] != 15 {
		t.Errorf("Split = %v", digits)
	}
	if chain, ok := onetime.Lower(b, a); chain != 31 || !ok {
		t.Errorf("Lower(b, a) = %d, %t", chain, ok)
	}
	if chain, ok := onetime.Lower(a, b); chain != 33 || !ok {
		t.Errorf("Lower(a, b) = %d, %t", chain, ok)
	}
	if chain, ok := onetime.Lower(a, a); chain != 0 || ok {
		t.Errorf("Lower(a, a) = %d, %t", chain, ok)
	}
}

// TestP7_2Values has results that another program has computed.
func TestP7_2Values(t *testing.T) {
	zero, ones, seed := onetime.Value{}, valueOf(t, "ffffffffffffffffffffffffffffffff"), countingSeed()
	check := func(name string, got onetime.Value, e api.Errno, want string) {
		t.Helper()
		if got != valueOf(t, want) || e != api.OK {
			t.Errorf("%s = %x, %d, want %s", name, got, e, want)
		}
	}
	v, e := onetime.Secret(seed, 0, 0)
	check("Secret(seed, 0, 0)", v, e, "e41c0a8b4ab99a2e3ac90091ab22554f")
	v, e = onetime.Secret(seed, 65535, 34)
	check("Secret(seed, 65535, 34)", v, e, "68fc3525f22e5baf3030a26ab6cabaa7")
	v, e = onetime.Step(0, 0, 0, zero)
	check("Step(0, 0, 0, zeros)", v, e, "7bc9d1ecdbb545ab76085c93c23a2a48")
	v, e = onetime.Step(65535, 34, 14, ones)
	check("Step(65535, 34, 14, ones)", v, e, "94d516a1b2f361d741678ae14f833bd3")
	v, e = onetime.Compress(0, [35]onetime.Value{})
	check("Compress(0, zeros)", v, e, "0c447096b85ae6f76e7f5a8ef2c276e3")
	v, e = onetime.Public(seed, 0)
	check("Public(seed, 0)", v, e, "198f99ae60dd1394016f99d3263fe252")
	v, e = onetime.Public(seed, 65535)
	check("Public(seed, 65535)", v, e, "9570342f031b7729923ddc0e218977c2")
	v, e = onetime.Public([32]byte{}, 5)
	check("Public(zeros, 5)", v, e, "237a4f04c647257e1cdbd2b0a836e114")
}

func TestP7_2Secret(t *testing.T) {
	for n, leaf := range goodLeaves {
		for chain := range 35 {
			want := firstValue(someSeed(n), leaf, chain)
			if got, e := onetime.Secret(someSeed(n), leaf, chain); got != want || e != api.OK {
				t.Errorf("Secret(seed, %d, %d) = %x, %d, want %x", leaf, chain, got, e, want)
			}
		}
	}
	for bit := range 256 {
		var seed [32]byte
		seed[bit/8] = 1 << (bit % 8)
		if got, e := onetime.Secret(seed, 3, 4); got != firstValue(seed, 3, 4) || e != api.OK {
			t.Errorf("Secret of the seed with the bit %d = %x, %d", bit, got, e)
		}
	}
	for bit := range 16 {
		if got, e := onetime.Secret([32]byte{}, 1<<bit, 4); got != firstValue([32]byte{}, 1<<bit, 4) || e != api.OK {
			t.Errorf("Secret of the leaf %d = %x, %d", 1<<bit, got, e)
		}
	}
}

func TestP7_2Step(t *testing.T) {
	for n, leaf := range goodLeaves {
		for chain := range 35 {
			for step := range 15 {
				v := someValue("v", 1000*n+chain)
				want := nextValue(leaf, chain, step, v)
				if got, e := onetime.Step(leaf, chain, step, v); got != want || e != api.OK {
					t.Fatalf("Step(%d, %d, %d, %x) = %x, %d, want %x", leaf, chain, step, v, got, e, want)
				}
			}
		}
	}
}

// TestP7_2Advance checks all pairs of steps.
func TestP7_2Advance(t *testing.T) {
	for _, leaf := range goodLeaves {
		for _, chain := range []int{0, 1, 17, 31, 32, 34} {
			v := someValue("v", leaf+chain)
			for from := range 16 {
				for k, want := range chainFrom(leaf, chain, from, v) {
					if got, e := onetime.Advance(leaf, chain, from, from+k, v); got != want || e != api.OK {
						t.Fatalf("Advance(%d, %d, %d, %d, %x) = %x, %d, want %x", leaf, chain, from, from+k, v, got, e, want)
					}
				}
			}
		}
	}
}

func TestP7_2Compress(t *testing.T) {
	for n, leaf := range goodLeaves {
		ends := [35]onetime.Value(someSignature(n))
		if got, e := onetime.Compress(leaf, ends); got != publicOf(leaf, ends) || e != api.OK {
			t.Errorf("Compress(%d, ends) = %x, %d, want %x", leaf, got, e, publicOf(leaf, ends))
		}
	}
	for bit := range 128 {
		for chain := range 35 {
			var ends [35]onetime.Value
			ends[chain][bit/8] = 1 << (bit % 8)
			if got, e := onetime.Compress(1, ends); got != publicOf(1, ends) || e != api.OK {
				t.Fatalf("Compress with the bit %d of chain %d = %x, %d", bit, chain, got, e)
			}
		}
	}
}

func TestP7_2Public(t *testing.T) {
	for n, leaf := range goodLeaves {
		_, want := signed(someSeed(n), leaf, [16]byte{})
		if got, e := onetime.Public(someSeed(n), leaf); got != want || e != api.OK {
			t.Errorf("Public(seed, %d) = %x, %d, want %x", leaf, got, e, want)
		}
	}
}

func TestP7_2Leaves(t *testing.T) {
	v, ends := someValue("v", 0), [35]onetime.Value(someSignature(0))
	for _, leaf := range badLeaves {
		for name, call := range map[string]func() (onetime.Value, api.Errno){
			"Secret":                 func() (onetime.Value, api.Errno) { return onetime.Secret(someSeed(0), leaf, 0) },
			"Step":                   func() (onetime.Value, api.Errno) { return onetime.Step(leaf, 0, 0, v) },
			"Advance":                func() (onetime.Value, api.Errno) { return onetime.Advance(leaf, 0, 0, 15, v) },
			"Advance by no step":     func() (onetime.Value, api.Errno) { return onetime.Advance(leaf, 0, 3, 3, v) },
			"Compress":               func() (onetime.Value, api.Errno) { return onetime.Compress(leaf, ends) },
			"Public":                 func() (onetime.Value, api.Errno) { return onetime.Public(someSeed(0), leaf) },
			"Recover":                func() (onetime.Value, api.Errno) { return onetime.Recover(leaf, v, onetime.Signature(ends)) },
			"Recover of zero values": func() (onetime.Value, api.Errno) { return onetime.Recover(leaf, [16]byte{}, onetime.Signature{}) },
		} {
			if got, e := call(); got != (onetime.Value{}) || e != api.ErrRange {
				t.Errorf("%s with the leaf %d = %x, %d", name, leaf, got, e)
			}
		}
		if s, e := onetime.Sign(someSeed(0), leaf, v); s != (onetime.Signature{}) || e != api.ErrRange {
			t.Errorf("Sign with the leaf %d = %x, %d", leaf, s, e)
		}
		for _, second := range [][16]byte{v, someValue("v", 1)} { // the leaf is the first error that Extract names
			if x, e := onetime.Extract(leaf, v, someSignature(0), second, someSignature(1)); x != (onetime.Evidence{}) || e != api.ErrRange {
				t.Errorf("Extract with the leaf %d = %v, %d", leaf, x, e)
			}
		}
	}
}

func TestP7_2Chains(t *testing.T) {
	v := someValue("v", 0)
	for _, chain := range []int{-1, 35, 36, 255, 256, -256, 1 << 32, math.MaxInt, math.MinInt} {
		for _, leaf := range []int{0, 7, 65535, 65536} {
			if got, e := onetime.Secret(someSeed(0), leaf, chain); got != (onetime.Value{}) || e != api.ErrRange {
				t.Errorf("Secret(seed, %d, %d) = %x, %d", leaf, chain, got, e)
			}
			if got, e := onetime.Step(leaf, chain, 0, v); got != (onetime.Value{}) || e != api.ErrRange {
				t.Errorf("Step(%d, %d, 0, v) = %x, %d", leaf, chain, got, e)
			}
			for _, to := range []int{4, 5, 15, 16} {
				if got, e := onetime.Advance(leaf, chain, 4, to, v); got != (onetime.Value{}) || e != api.ErrRange {
					t.Errorf("Advance(%d, %d, 4, %d, v) = %x, %d", leaf, chain, to, got, e)
				}
			}
		}
	}
}

func TestP7_2Steps(t *testing.T) {
	v := someValue("v", 0)
	for _, step := range []int{-1, -2, 15, 16, 17, 256, math.MaxInt, math.MaxInt - 1, math.MinInt} {
		if got, e := onetime.Step(1, 2, step, v); got != (onetime.Value{}) || e != api.ErrRange {
			t.Errorf("Step(1, 2, %d, v) = %x, %d", step, got, e)
		}
	}
	steps := []int{math.MinInt, -256, -2, -1, 0, 1, 7, 14, 15, 16, 17, 256, math.MaxInt}
	for _, from := range steps {
		for _, to := range steps {
			got, e := onetime.Advance(1, 2, from, to, v)
			if 0 <= from && from <= to && to <= 15 {
				if e != api.OK || got != chainFrom(1, 2, from, v)[to-from] {
					t.Errorf("Advance(1, 2, %d, %d, v) = %x, %d", from, to, got, e)
				}
			} else if got != (onetime.Value{}) || e != api.ErrRange {
				t.Errorf("Advance(1, 2, %d, %d, v) = %x, %d", from, to, got, e)
			}
		}
	}
}

func TestP7_3Values(t *testing.T) {
	digest := valueOf(t, "ba7816bf8f01cfea414140de5dae2223")
	s, e := onetime.Sign(countingSeed(), 7, digest)
	var b []byte
	for _, v := range s {
		b = append(b, v[:]...)
	}
	d := standard.Sum256(b)
	if got := hex.EncodeToString(d[:]); got != "459476e524b361849c8351b93039c9dd0ec705d2cbdecb828fdd72b7428a5983" || e != api.OK {
		t.Errorf("the signature has the digest %s, %d", got, e)
	}
	if v, e := onetime.Recover(7, digest, s); v != valueOf(t, "202a94bc191c6116e8f775a96f2f33dc") || e != api.OK {
		t.Errorf("Recover = %x, %d", v, e)
	}
}

func TestP7_3Sign(t *testing.T) {
	for n, digest := range someDigests() {
		seed, leaf := someSeed(n), goodLeaves[n%len(goodLeaves)]
		want, public := signed(seed, leaf, digest)
		s, e := onetime.Sign(seed, leaf, digest)
		if s != want || e != api.OK {
			t.Errorf("Sign(seed, %d, %x) = %x, %d, want %x", leaf, digest, s, e, want)
		}
		if v, e := onetime.Recover(leaf, digest, s); v != public || e != api.OK {
			t.Errorf("Recover(%d, %x, s) = %x, %d, want %x", leaf, digest, v, e, public)
		}
		if !onetime.Verify(public, leaf, digest, s) {
			t.Errorf("Verify(public, %d, %x, s) is false", leaf, digest)
		}
	}
}

// TestP7_3Recover checks signatures that nobody has signed; they lead to a public value, too.
func TestP7_3Recover(t *testing.T) {
	for n, digest := range someDigests() {
		s, leaf := someSignature(n), goodLeaves[n%len(goodLeaves)]
		want := recovered(leaf, digest, s)
		if v, e := onetime.Recover(leaf, digest, s); v != want || e != api.OK {
			t.Errorf("Recover(%d, %x, s) = %x, %d, want %x", leaf, digest, v, e, want)
		}
		if !onetime.Verify(want, leaf, digest, s) {
			t.Errorf("Verify(%x, %d, %x, s) is false", want, leaf, digest)
		}
	}
}

// TestP7_3Verify checks that every change of an argument is noticed.
func TestP7_3Verify(t *testing.T) {
	digest := someValue("digest", 1)
	s, public := signed(someSeed(1), 300, digest)
	if !onetime.Verify(public, 300, digest, s) {
		t.Fatal("the signature is rejected")
	}
	for bit := range 128 {
		p, d := public, digest
		p[bit/8] ^= 1 << (bit % 8)
		d[bit/8] ^= 1 << (bit % 8)
		if onetime.Verify(p, 300, digest, s) || onetime.Verify(public, 300, d, s) {
			t.Fatalf("the signature is accepted with a change of the bit %d", bit)
		}
	}
	for chain := range s {
		for _, bit := range []int{0, 63, 127} {
			r := s
			r[chain][bit/8] ^= 1 << (bit % 8)
			if onetime.Verify(public, 300, digest, r) {
				t.Errorf("the signature is accepted with a change of the bit %d of the chain %d", bit, chain)
			}
		}
	}
	for _, leaf := range append([]int{301, 299, 0, 44, 556, 300 + 65536, 300 + 1<<32}, badLeaves...) {
		if onetime.Verify(public, leaf, digest, s) {
			t.Errorf("the signature is accepted for the leaf %d", leaf)
		}
	}
	for _, leaf := range badLeaves {
		if onetime.Verify(onetime.Value{}, leaf, digest, s) || onetime.Verify(recovered(leaf, digest, s), leaf, digest, s) {
			t.Errorf("Verify with the leaf %d is true", leaf)
		}
	}
}
