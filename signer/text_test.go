package signer_test

import (
	"bytes"
	standard "crypto/sha256"
	"encoding/base64"
	"encoding/hex"
	"math"
	"math/rand"
	"strings"
	"testing"

	"bulletin/api"
	"bulletin/signer"
)

func TestP8_4PublicText(t *testing.T) {
	random := rand.New(rand.NewSource(84))
	for height := 1; height <= 8; height++ {
		for range 20 {
			p := signer.Public{Height: height, Root: randomDigest(random)}
			want := base64.StdEncoding.EncodeToString(append([]byte{byte(height)}, p.Root[:]...))
			if text, e := signer.PublicText(p); text != want || len(text) != 24 || e != api.OK {
				t.Errorf("PublicText(%v) = %q, %d, want %q", p, text, e, want)
			}
			if got, e := signer.ParsePublic(want); got != p || e != api.OK {
				t.Errorf("ParsePublic(%q) = %v, %d", want, got, e)
			}
		}
	}
	for _, height := range badHeights {
		if text, e := signer.PublicText(signer.Public{Height: height, Root: [16]byte{1}}); text != "" || e != api.ErrRange {
			t.Errorf("PublicText at height %d = %q, %d", height, text, e)
		}
	}
}

// TestP8_4PublicValues compares with what another program has computed.
func TestP8_4PublicValues(t *testing.T) {
	for i, want := range publics {
		p := signer.Public{Height: i + 1, Root: valueOf(t, want.root)}
		if text, e := signer.PublicText(p); text != want.text || e != api.OK {
			t.Errorf("PublicText(%v) = %q, %d, want %q", p, text, e, want.text)
		}
		if got, e := signer.ParsePublic(want.text); got != p || e != api.OK {
			t.Errorf("ParsePublic(%q) = %v, %d", want.text, got, e)
		}
	}
}

// badTexts are no texts of base64.
var badTexts = []struct {
	text string
	e    api.Errno
}{
	{"AAA", api.ErrShort}, {"A", api.ErrShort}, {"AA*A", api.ErrByte}, {"AAAA\n", api.ErrByte}, {" AAAA", api.ErrByte}, {"AAAA ", api.ErrByte}, {"AB==", api.ErrFormat}, {"=", api.ErrByte}, {"A===", api.ErrByte},
	{"*" + strings.Repeat("A", 23), api.ErrByte}, {strings.Repeat("A", 770) + "*A", api.ErrByte}, {strings.Repeat("A", 771), api.ErrShort},
	{strings.Repeat("A", 174764), api.ErrLong}, {strings.Repeat("*", 174765), api.ErrLong}, {strings.Repeat("A", 174768), api.ErrLong},
}

func TestP8_4ParsePublicErrors(t *testing.T) {
	refuse := func(text string, want api.Errno) {
		t.Helper()
		if p, e := signer.ParsePublic(text); p != (signer.Public{}) || e != want {
			t.Errorf("ParsePublic(%.30q) = %v, %d, want %d", text, p, e, want)
		}
	}
	for _, c := range badTexts {
		refuse(c.text, c.e)
	}
	for n := range 100 {
		for _, height := range []byte{0, 1, 9} { // the number of bytes comes before the height
			b := make([]byte, n)
			if n > 0 {
				b[0] = height
			}
			text := base64.StdEncoding.EncodeToString(b)
			switch {
			case n < 17:
				refuse(text, api.ErrShort)
			case n > 17:
				refuse(text, api.ErrLong)
			}
		}
	}
	for height := range 256 {
		if height < 1 || height > 8 {
			refuse(base64.StdEncoding.EncodeToString(append([]byte{byte(height)}, make([]byte, 16)...)), api.ErrRange)
		}
	}
	refuse("AQpCNdivJEhrerxoUwEvo5N=", api.ErrFormat) // bits that were appended are not 0
	refuse("AQpCNdivJEhrerxoUwEvo5M", api.ErrShort)
}

// signatures has what another program has computed for keys with countingSeed.
var signatures = []struct {
	height, leaf int
	digest, text string // what is signed, and the SHA-256 digest of the text of the signature
}{
	{1, 0, "00000000000000000000000000000000", "b5b3098543f54e97870181beae7bd34beb9209a496cad4673df8d48516b6c641"},
	{1, 1, "ffffffffffffffffffffffffffffffff", "a69dfca102a557510a812629aacf03235fa803cbd4fcee9000379d61db732493"},
	{2, 3, "000102030405060708090a0b0c0d0e0f", "27d778a667dcd0d9058f631ae44b69f1566e198de58665729a2f79a8e48e0808"},
	{8, 0, "000102030405060708090a0b0c0d0e0f", "8333a86f9cd2e065819a03b5f94c76b1a94bca4bff459f23ed5b4d7005fb140a"},
	{8, 255, "000102030405060708090a0b0c0d0e0f", "f98e3adc3ab9c50da3600c27ac4dc7fc18cbcd4db36c29085f485217d5e1f858"},
	{5, 20, "ba7816bf8f01cfea414140de5dae2223", "a7ff4bc20960cc57af303507dad5f38d449d5a871b11ac67310da711ce6641f9"},
}

func TestP8_4SignatureValues(t *testing.T) {
	for _, c := range signatures {
		g, e := signer.Sign(signer.Secret{Seed: countingSeed(), Height: c.height}, c.leaf, valueOf(t, c.digest))
		text, f := signer.SignatureText(g)
		digest := standard.Sum256([]byte(text))
		if hex.EncodeToString(digest[:]) != c.text || e != api.OK || f != api.OK {
			t.Errorf("the text of the signature of %s with the leaf %d at height %d is %q, %d, %d", c.digest, c.leaf, c.height, text, e, f)
		}
	}
}

func TestP8_4SignatureText(t *testing.T) {
	random := rand.New(rand.NewSource(844))
	for height := 1; height <= 8; height++ {
		for leaf := range 1 << height {
			g := forged(random, leaf, height)
			want := textOf(g)
			if text, e := signer.SignatureText(g); text != want || e != api.OK {
				t.Fatalf("SignatureText(%v) = %q, %d, want %q", g, text, e, want)
			}
			if got, e := signer.ParseSignature(want); !same(got, g) || e != api.OK {
				t.Fatalf("ParseSignature(%q) = %v, %d, want %v", want, got, e, g)
			}
		}
	}
	if text, _ := signer.SignatureText(forged(random, 1, 1)); len(text) != 772 { // example 2
		t.Errorf("the text has %d characters", len(text))
	}
	for _, c := range []struct{ leaf, nodes int }{{0, 0}, {0, 9}, {0, 255}, {0, 256}, {0, 257}, {-1, 1}, {2, 1}, {256, 8}, {65536, 8}, {65537, 8}, {math.MaxInt, 8}, {math.MinInt, 1}} {
		if text, e := signer.SignatureText(forged(random, c.leaf, c.nodes)); text != "" || e != api.ErrRange {
			t.Errorf("SignatureText with the leaf %d and %d nodes = %q, %d", c.leaf, c.nodes, text, e)
		}
	}
}

// refuseSignature checks that a text is not that of a signature.
func refuseSignature(t *testing.T, text string, want api.Errno) {
	t.Helper()
	if g, e := signer.ParseSignature(text); !isZero(g) || e != want {
		t.Errorf("ParseSignature of %d characters = %v, %d, want %d", len(text), g, e, want)
	}
}

func TestP8_4ParseSignatureErrors(t *testing.T) {
	for _, c := range badTexts {
		refuseSignature(t, c.text, c.e)
	}
	refuseSignature(t, "", api.ErrShort)
	// The numbers of nodes that no signature has are refused only after the bytes were counted.
	for _, nodes := range []int{0, 1, 2, 7, 8, 9, 10, 128, 254, 255} {
		complete := 3 + 35*16 + 16*nodes
		for n := range complete + 40 {
			b := bytes.Repeat([]byte{7}, n)
			copy(b, []byte{0, 0, byte(nodes)})
			text := base64.StdEncoding.EncodeToString(b)
			switch {
			case n < complete:
				refuseSignature(t, text, api.ErrShort)
			case n > complete:
				refuseSignature(t, text, api.ErrLong)
			case nodes < 1 || nodes > 8:
				refuseSignature(t, text, api.ErrRange)
			default:
				if g, e := signer.ParseSignature(text); len(g.Path) != nodes || e != api.OK {
					t.Errorf("ParseSignature with %d nodes = %v, %d", nodes, g, e)
				}
			}
		}
	}
}

func TestP8_4ParseSignatureLeaves(t *testing.T) {
	random := rand.New(rand.NewSource(8444))
	for nodes := range 10 {
		g := forged(random, 0, nodes)
		for _, leaf := range []int{0, 1, 2, 3, 4, 127, 128, 255, 256, 257, 511, 512, 32768, 65280, 65535} {
			g.Leaf = leaf
			if text := textOf(g); nodes < 1 || nodes > 8 || leaf >= 1<<nodes {
				refuseSignature(t, text, api.ErrRange)
			} else if got, e := signer.ParseSignature(text); !same(got, g) || e != api.OK {
				t.Errorf("ParseSignature with the leaf %d and %d nodes = %v, %d", leaf, nodes, got, e)
			}
		}
	}
	g := forged(random, 1, 3)
	g.Path[2][15] = 0
	text := textOf(g) // of 611 bytes, so that its last character has bits that were appended
	if !strings.HasSuffix(text, "A=") {
		t.Fatalf("%q has another end", text)
	}
	refuseSignature(t, strings.TrimSuffix(text, "A=")+"B=", api.ErrFormat)
}
