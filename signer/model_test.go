package signer_test

import (
	"bytes"
	standard "crypto/sha256"
	"encoding/base64"
	"encoding/binary"
	"encoding/hex"
	"math"
	"math/rand"
	"slices"
	"testing"

	"bulletin/signer"
)

// value is a hash: the value of a chain, a node or a root.
type value = [16]byte

// This file has the terms of the chapter once more, over the SHA-256 of the standard library.

func hash(parts ...[]byte) value {
	d := standard.Sum256(bytes.Join(parts, nil))
	return value(d[:16])
}

// tagged is the hash of what begins with a number and a leaf.
func tagged(tag byte, leaf int, parts ...[]byte) value {
	return hash(binary.BigEndian.AppendUint32([]byte{tag}, uint32(leaf)), bytes.Join(parts, nil))
}

// chain returns the values of a chain from a step to step 15.
func chain(leaf, number, from int, v value) []value {
	values := []value{v}
	for step := from; step < 15; step++ {
		v = tagged(3, leaf, []byte{byte(number), byte(step)}, v[:])
		values = append(values, v)
	}
	return values
}

func digitsOf(digest [16]byte) [35]int {
	text, sum := hex.EncodeToString(digest[:]), 0
	var digits [35]int
	for i, c := range []byte(text) {
		digits[i] = bytes.IndexByte([]byte("0123456789abcdef"), c)
		sum += 15 - digits[i]
	}
	digits[32], digits[33], digits[34] = sum/256, sum/16%16, sum%16
	return digits
}

// leafOf returns the leaf node of the ends of all chains.
func leafOf(leaf int, ends [35]value) value {
	var b []byte
	for _, end := range ends {
		b = append(b, end[:]...)
	}
	public := tagged(4, leaf, b)
	return tagged(0, leaf, public[:])
}

func parent(level int, left, right value) value {
	return hash([]byte{1, byte(level)}, left[:], right[:])
}

// rootOf returns the root that a signature of a digest leads to.
func rootOf(digest [16]byte, g signer.Signature) value {
	var ends [35]value
	for number, digit := range digitsOf(digest) {
		values := chain(g.Leaf, number, digit, g.Chains[number])
		ends[number] = values[len(values)-1]
	}
	node, at := leafOf(g.Leaf, ends), g.Leaf
	for k, sibling := range g.Path {
		if at%2 == 0 {
			node = parent(k+1, node, sibling)
		} else {
			node = parent(k+1, sibling, node)
		}
		at /= 2
	}
	return node
}

// modelKey has all values of all chains of a secret key, and the levels of its tree.
type modelKey struct {
	secret signer.Secret
	chains [][35][]value
	levels [][]value
}

func newModel(s signer.Secret) modelKey {
	m := modelKey{secret: s, levels: [][]value{nil}}
	for leaf := range 1 << s.Height {
		var chains [35][]value
		var ends [35]value
		for number := range chains {
			chains[number] = chain(leaf, number, 0, tagged(2, leaf, []byte{byte(number)}, s.Seed[:]))
			ends[number] = chains[number][15]
		}
		m.chains = append(m.chains, chains)
		m.levels[0] = append(m.levels[0], leafOf(leaf, ends))
	}
	for k := range s.Height {
		var parents []value
		for i := 0; i < len(m.levels[k]); i += 2 {
			parents = append(parents, parent(k+1, m.levels[k][i], m.levels[k][i+1]))
		}
		m.levels = append(m.levels, parents)
	}
	return m
}

func (m modelKey) public() signer.Public {
	return signer.Public{Height: m.secret.Height, Root: m.levels[m.secret.Height][0]}
}

func (m modelKey) sign(leaf int, digest [16]byte) signer.Signature {
	g := signer.Signature{Leaf: leaf}
	for number, digit := range digitsOf(digest) {
		g.Chains[number] = m.chains[leaf][number][digit]
	}
	for k := range m.secret.Height {
		sibling := leaf>>k + 1
		if sibling%2 == 0 {
			sibling -= 2
		}
		g.Path = append(g.Path, m.levels[k][sibling])
	}
	return g
}

// textOf returns the text of a signature with a leaf of up to 65535 and a path of up to 255 nodes.
func textOf(g signer.Signature) string {
	b := []byte{byte(g.Leaf / 256), byte(g.Leaf % 256), byte(len(g.Path))}
	for _, v := range g.Chains {
		b = append(b, v[:]...)
	}
	for _, node := range g.Path {
		b = append(b, node[:]...)
	}
	return base64.StdEncoding.EncodeToString(b)
}

// same reports whether two signatures have the same parts.
func same(a, b signer.Signature) bool {
	return a.Leaf == b.Leaf && a.Chains == b.Chains && slices.Equal(a.Path, b.Path)
}

// isZero reports whether a signature is the zero value.
func isZero(g signer.Signature) bool { return same(g, signer.Signature{}) }

func seedOf(n int) [32]byte { return standard.Sum256([]byte{byte(n), byte(n >> 8)}) }

// countingSeed returns the seed with the bytes 0, 1, 2, and so on.
func countingSeed() [32]byte {
	var seed [32]byte
	for i := range seed {
		seed[i] = byte(i)
	}
	return seed
}

func valueOf(t *testing.T, text string) value {
	t.Helper()
	b, err := hex.DecodeString(text)
	if err != nil || len(b) != 16 {
		t.Fatalf("%q is not a value", text)
	}
	return value(b)
}

func randomDigest(random *rand.Rand) (digest [16]byte) {
	random.Read(digest[:])
	return digest
}

// forged returns a signature that nobody has signed.
func forged(random *rand.Rand, leaf, height int) signer.Signature {
	g := signer.Signature{Leaf: leaf, Path: make([][16]byte, height)}
	for number := range g.Chains {
		random.Read(g.Chains[number][:])
	}
	for k := range g.Path {
		random.Read(g.Path[k][:])
	}
	return g
}

func clone(g signer.Signature) signer.Signature {
	g.Path = slices.Clone(g.Path)
	return g
}

// badHeights are no heights of keys.
var badHeights = []int{0, 9, -1, 10, 255, 256, 257, -255, 1 << 32, 1<<32 + 1, math.MaxInt, math.MinInt}
