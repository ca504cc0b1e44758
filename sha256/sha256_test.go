package sha256_test

import (
	standard "crypto/sha256"
	"encoding/hex"
	"strings"
	"testing"

	"bulletin/api"
	"bulletin/sha256"
)

// someBytes returns n bytes without a pattern that blocks or words could hide.
func someBytes(n int) []byte {
	b := make([]byte, n)
	x := uint32(1)
	for i := range b {
		x = x*1664525 + 1013904223
		b[i] = byte(x >> 24)
	}
	return b
}

// written returns a Hash to which some texts have been written.
func written(t *testing.T, texts ...string) *sha256.Hash {
	t.Helper()
	h := sha256.New()
	for _, s := range texts {
		if e := h.Write([]byte(s)); e != api.OK {
			t.Fatalf("Write of %d bytes = %d", len(s), e)
		}
	}
	return h
}

// TestP5_1Vectors checks digests that FIPS 180-4 and the document name.
func TestP5_1Vectors(t *testing.T) {
	for s, want := range map[string]string{
		"":    "e3b0c44298fc1c149afbf4c8996fb92427ae41e4649b934ca495991b7852b855",
		"abc": "ba7816bf8f01cfea414140de5dae2223b00361a396177a9cb410ff61f20015ad",
		"abcdbcdecdefdefgefghfghighijhijkijkljklmklmnlmnomnopnopq":                                                         "248d6a61d20638b8e5c026930c3e6039a33ce45964ff2167f6ecedd419db06c1",
		"abcdefghbcdefghicdefghijdefghijkefghijklfghijklmghijklmnhijklmnoijklmnopjklmnopqklmnopqrlmnopqrsmnopqrstnopqrstu": "cf5b16a778af8380036ce59e7b0492370b249b11e8f07a51afac45037afee9d1",
		strings.Repeat("a", 1000000): "cdc76e5c9914fb9281a1c7e284d73e67f1809a48a497200e046d39ccc7112cd0",
	} {
		d := sha256.Sum([]byte(s))
		if got := hex.EncodeToString(d[:]); got != want {
			t.Errorf("Sum(%.20q) = %s, want %s", s, got, want)
		}
	}
}

// TestP5_1Lengths compares with the standard library for each length of the last block, and for long inputs.
func TestP5_1Lengths(t *testing.T) {
	all := someBytes(1 << 17)
	check := func(b []byte) {
		t.Helper()
		want := standard.Sum256(b)
		if got := sha256.Sum(b); got != want {
			t.Fatalf("Sum of %d bytes = %x, want %x", len(b), got, want)
		}
		if got := sha256.SumHalf(b); got != sha256.Half(want[:16]) {
			t.Fatalf("SumHalf of %d bytes = %x, want %x", len(b), got, want[:16])
		}
	}
	for n := range 600 {
		check(all[:n])
		check(all[n : 3*n])
	}
	for _, n := range []int{4095, 4096, 65535, 65536, 65537, len(all)} {
		check(all[:n])
	}
	check(nil)
	check([]byte{})
}

// TestP5_1Bits checks that every bit of two blocks changes the digest as it should.
func TestP5_1Bits(t *testing.T) {
	b := make([]byte, 2*sha256.BlockSize)
	for bit := range 8 * len(b) {
		b[bit/8] ^= 1 << (bit % 8)
		if got, want := sha256.Sum(b), sha256.Digest(standard.Sum256(b)); got != want {
			t.Fatalf("with the bit %d: %x, want %x", bit, got, want)
		}
		b[bit/8] = 0
	}
	for _, fill := range []byte{0, 255} {
		for i := range b {
			b[i] = fill
		}
		if got, want := sha256.Sum(b), sha256.Digest(standard.Sum256(b)); got != want {
			t.Errorf("of bytes %d: %x, want %x", fill, got, want)
		}
	}
}

func TestP5_1Types(t *testing.T) {
	if sha256.Size != 32 || sha256.BlockSize != 64 || len(sha256.Digest{}) != 32 || len(sha256.Half{}) != 16 {
		t.Error("the sizes are wrong")
	}
}

func TestP5_2New(t *testing.T) {
	h := sha256.New()
	if h == nil || h.Len() != 0 || h.Sum() != sha256.Sum(nil) {
		t.Errorf("a new Hash: Len %d, Sum %x", h.Len(), h.Sum())
	}
	if a, b := sha256.New(), sha256.New(); a == b {
		t.Error("New returns the same Hash twice")
	}
}

// TestP5_2TwoPieces writes each division of texts of up to three blocks in two pieces, and asks for the sum after each of them.
func TestP5_2TwoPieces(t *testing.T) {
	all := someBytes(3 * sha256.BlockSize)
	for n := 0; n <= len(all); n++ {
		want := sha256.Digest(standard.Sum256(all[:n]))
		for k := 0; k <= n; k++ {
			h := written(t, string(all[:k]))
			if h.Len() != k || h.Sum() != standard.Sum256(all[:k]) {
				t.Fatalf("after %d bytes: Len %d, Sum %x", k, h.Len(), h.Sum())
			}
			if e := h.Write(all[k:n]); e != api.OK || h.Len() != n {
				t.Fatalf("Write of %d bytes after %d: %d, Len %d", n-k, k, e, h.Len())
			}
			for range 2 {
				if got := h.Sum(); got != want {
					t.Fatalf("%d and %d bytes: %x, want %x", k, n-k, got, want)
				}
			}
		}
	}
}

// TestP5_2ManyPieces writes pieces of one size, and checks the sum after each of them.
func TestP5_2ManyPieces(t *testing.T) {
	all := someBytes(1000)
	for _, size := range []int{1, 2, 3, 7, 55, 56, 63, 64, 65, 127, 128, 129, 500} {
		h := sha256.New()
		for from := 0; from < len(all); from += size {
			to := min(from+size, len(all))
			if e := h.Write(all[from:to]); e != api.OK {
				t.Fatalf("Write = %d", e)
			}
			if got := h.Sum(); got != standard.Sum256(all[:to]) || h.Len() != to {
				t.Fatalf("%d bytes in pieces of %d: %x, Len %d", to, size, got, h.Len())
			}
		}
	}
}

func TestP5_2EmptyPieces(t *testing.T) {
	h := sha256.New()
	for _, s := range []string{"", "a", "", "", "bc", ""} {
		if e := h.Write([]byte(s)); e != api.OK {
			t.Errorf("Write(%q) = %d", s, e)
		}
	}
	if e := h.Write(nil); e != api.OK {
		t.Errorf("Write(nil) = %d", e)
	}
	if h.Len() != 3 || h.Sum() != sha256.Sum([]byte("abc")) {
		t.Errorf("Len %d, Sum %x", h.Len(), h.Sum())
	}
}

// TestP5_2Clone checks for each length of the rest of a block that a copy and its original do not disturb each other.
func TestP5_2Clone(t *testing.T) {
	all := string(someBytes(300))
	for n := range 130 {
		h := written(t, all[:n])
		c := h.Clone()
		if c == h || c.Len() != n || c.Sum() != h.Sum() {
			t.Fatalf("the clone after %d bytes: Len %d, Sum %x", n, c.Len(), c.Sum())
		}
		h.Write([]byte("h" + all[:n]))
		c.Write([]byte("clone"))
		d := c.Clone()
		d.Write([]byte("d"))
		for _, x := range []struct {
			hash *sha256.Hash
			text string
		}{{h, all[:n] + "h" + all[:n]}, {c, all[:n] + "clone"}, {d, all[:n] + "cloned"}} {
			if x.hash.Len() != len(x.text) || x.hash.Sum() != standard.Sum256([]byte(x.text)) {
				t.Fatalf("after %d bytes and a clone: Len %d, Sum %x", n, x.hash.Len(), x.hash.Sum())
			}
		}
	}
}

// TestP5_3Text checks each byte at each place of a digest.
func TestP5_3Text(t *testing.T) {
	for place := range sha256.Size {
		for i := range 256 {
			d := sha256.Digest(someBytes(sha256.Size))
			d[place] = byte(i)
			s := d.String()
			if s != hex.EncodeToString(d[:]) {
				t.Fatalf("String of %x = %q", d[:], s)
			}
			if got, e := sha256.Parse(s); got != d || e != api.OK {
				t.Fatalf("Parse(%q) = %x, %d", s, got, e)
			}
		}
	}
	zero := strings.Repeat("0", 64)
	if got := (sha256.Digest{}).String(); got != zero {
		t.Errorf("String of the zero Digest = %q", got)
	}
	if d, e := sha256.Parse(zero); d != (sha256.Digest{}) || e != api.OK {
		t.Errorf("Parse of 64 zeros = %x, %d", d, e)
	}
}

// TestP5_3Bytes puts each byte at each place of a text.
func TestP5_3Bytes(t *testing.T) {
	text := sha256.Sum([]byte("abc")).String()
	for place := range text {
		for i := range 256 {
			c := string([]byte{byte(i)})
			s := text[:place] + c + text[place+1:]
			d, e := sha256.Parse(s)
			if strings.Contains("0123456789abcdef", c) {
				if e != api.OK || hex.EncodeToString(d[:]) != s {
					t.Fatalf("Parse(%q) = %x, %d", s, d, e)
				}
			} else if e != api.ErrFormat || d != (sha256.Digest{}) {
				t.Fatalf("Parse(%q) = %x, %d", s, d, e)
			}
		}
	}
}

func TestP5_3Errors(t *testing.T) {
	text := sha256.Sum([]byte("abc")).String()
	for _, c := range []struct {
		name, s string
		e       api.Errno
	}{
		{"nothing", "", api.ErrShort}, {"one digit", "0", api.ErrShort}, {"63 digits", text[:63], api.ErrShort}, {"62 digits", text[:62], api.ErrShort},
		{"63 bytes that are not digits", strings.Repeat("x", 63), api.ErrShort}, {"63 capital digits", strings.Repeat("A", 63), api.ErrShort}, {"a half digest", text[:32], api.ErrShort},
		{"65 digits", text + "0", api.ErrLong}, {"66 digits", text + "00", api.ErrLong}, {"65 bytes that are not digits", strings.Repeat("x", 65), api.ErrLong}, {"a space more", text + " ", api.ErrLong}, {"a line feed more", text + "\n", api.ErrLong},
		{"two digests", text + text, api.ErrLong}, {"66 bytes with 0x", "0x" + text, api.ErrLong}, {"many bytes", strings.Repeat("0", 1<<17), api.ErrLong},
		{"capital digits", strings.ToUpper(text), api.ErrFormat}, {"64 bytes that are not digits", strings.Repeat("x", 64), api.ErrFormat}, {"0x and 62 digits", "0x" + text[2:], api.ErrFormat},
		{"32 characters of two bytes", strings.Repeat("\u0661", 32), api.ErrFormat}, {"a last byte that is not a digit", text[:63] + "g", api.ErrFormat}, {"a space at the beginning", " " + text[1:], api.ErrFormat},
	} {
		if d, e := sha256.Parse(c.s); d != (sha256.Digest{}) || e != c.e {
			t.Errorf("Parse of %s = %x, %d, want %d", c.name, d, e, c.e)
		}
	}
}

func TestP5_4Nil(t *testing.T) {
	var h *sha256.Hash
	for _, b := range [][]byte{nil, {}, []byte("abc"), make([]byte, 1000)} {
		if e := h.Write(b); e != api.ErrArgument {
			t.Errorf("Write of %d bytes = %d", len(b), e)
		}
	}
	if d := h.Sum(); d != (sha256.Digest{}) {
		t.Errorf("Sum = %x", d)
	}
	if n := h.Len(); n != 0 {
		t.Errorf("Len = %d", n)
	}
	if c := h.Clone(); c != nil {
		t.Errorf("Clone = %v", c)
	}
}

// TestP1Zero checks that a Hash that New has not returned does not panic; what it returns is not specified.
func TestP1Zero(t *testing.T) {
	for n := range 130 {
		var h sha256.Hash
		h.Write(make([]byte, n))
		h.Clone().Write(make([]byte, n))
		h.Sum()
		h.Len()
	}
}

// TestP5_5Division checks all divisions of a few bytes at the end of a block.
func TestP5_5Division(t *testing.T) {
	all := someBytes(sha256.BlockSize + 5)
	want := sha256.Sum(all)
	const first = sha256.BlockSize - 6
	for cuts := range 1 << 11 {
		h := sha256.New()
		from := 0
		for to := first; to <= len(all); to++ {
			if to < len(all) && cuts>>(to-first)&1 == 0 {
				continue
			}
			h.Write(all[from:to])
			from = to
		}
		if h.Sum() != want || h.Len() != len(all) {
			t.Fatalf("division %b: %x, Len %d", cuts, h.Sum(), h.Len())
		}
	}
}

// TestP5_5Arguments checks that arguments are neither modified nor retained.
func TestP5_5Arguments(t *testing.T) {
	for _, n := range []int{1, 55, 56, 63, 64, 65, 119, 120, 128, 200} {
		all := someBytes(n + 100)
		b := append([]byte{}, all...)
		h := sha256.New()
		sha256.Sum(b[:n])
		sha256.SumHalf(b[:n])
		h.Write(b[:n])
		want := sha256.Digest(standard.Sum256(all[:n]))
		if string(b) != string(all) {
			t.Fatalf("%d bytes: the argument was changed, or what follows it", n)
		}
		for i := range b {
			b[i] ^= 0x55
		}
		if got := h.Sum(); got != want {
			t.Fatalf("%d bytes: the argument was retained", n)
		}
	}
}

// TestP5_5Independent checks that neither two Hashes nor a digest and its Hash share anything.
func TestP5_5Independent(t *testing.T) {
	a, b := written(t, "ab"), written(t, "x")
	d := a.Sum()
	d[0]++
	a.Write([]byte("c"))
	if a.Sum() != sha256.Sum([]byte("abc")) || b.Sum() != sha256.Sum([]byte("x")) || a.Len() != 3 || b.Len() != 1 {
		t.Errorf("Len %d and %d, Sum %x and %x", a.Len(), b.Len(), a.Sum(), b.Sum())
	}
	one := sha256.Sum([]byte("abc"))
	one[31]++
	if sha256.Sum([]byte("abc")) != a.Sum() {
		t.Error("a change of a digest changes the next one")
	}
}
