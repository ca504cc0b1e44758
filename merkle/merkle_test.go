package merkle_test

import (
	"bytes"
	standard "crypto/sha256"
	"encoding/binary"
	"encoding/hex"
	"math"
	"math/bits"
	"slices"
	"testing"

	"bulletin/api"
	"bulletin/merkle"
)

// hash is H of the document for bytes in several parts.
func hash(parts ...[]byte) merkle.Node {
	d := standard.Sum256(bytes.Join(parts, nil))
	return merkle.Node(d[:16])
}

func parent(level int, left, right merkle.Node) merkle.Node {
	return hash([]byte{1, byte(level)}, left[:], right[:])
}

// top returns the root of 2^h leaves by halving them.
func top(leaves []merkle.Node) merkle.Node {
	n := len(leaves)
	if n == 1 {
		return leaves[0]
	}
	return parent(bits.Len(uint(n))-1, top(leaves[:n/2]), top(leaves[n/2:]))
}

// way returns the path of a leaf by halving the leaves: the root of the half that the leaf is not in, and before it the path in its own half.
func way(leaves []merkle.Node, index int) []merkle.Node {
	n := len(leaves)
	if n == 1 {
		return nil
	}
	if index < n/2 {
		return append(way(leaves[:n/2], index), top(leaves[n/2:]))
	}
	return append(way(leaves[n/2:], index-n/2), top(leaves[:n/2]))
}

// someNodes returns n different nodes.
func someNodes(n int) []merkle.Node {
	nodes := make([]merkle.Node, n)
	for i := range nodes {
		nodes[i] = hash([]byte("node"), binary.BigEndian.AppendUint64(nil, uint64(i)))
	}
	return nodes
}

// nodeOf returns the node that a text in hexadecimal denotes.
func nodeOf(t *testing.T, text string) merkle.Node {
	t.Helper()
	b, err := hex.DecodeString(text)
	if err != nil || len(b) != 16 {
		t.Fatalf("%q is not a node", text)
	}
	return merkle.Node(b)
}

// full returns a node whose bytes are all 255.
func full() merkle.Node {
	var n merkle.Node
	for i := range n {
		n[i] = 255
	}
	return n
}

// wrongSizes has numbers of leaves of which there is no tree, with the errors.
func wrongSizes() map[int]api.Errno {
	wrong := map[int]api.Errno{0: api.ErrArgument, 1025: api.ErrLimit, 1026: api.ErrLimit, 1536: api.ErrLimit, 2047: api.ErrLimit, 2048: api.ErrLimit, 4096: api.ErrLimit}
	for n := 1; n < 1024; n++ {
		if bits.OnesCount(uint(n)) > 1 {
			wrong[n] = api.ErrRange
		}
	}
	return wrong
}

func TestP6_1Values(t *testing.T) {
	for _, c := range []struct {
		index int
		b     string
		want  string
	}{
		{0, "", "8855508aade16ec573d21e6a485dfd0a"},
		{1, "abc", "d46e38a5b2facfdc759688d32a4774fc"},
		{-1, "abc", "f89d159a30288c4f97b6550b6fe1a191"},
		{0x01020304, "", "08bb5e5d6eaac1049ede0893d30ed022"},
	} {
		if got, want := merkle.Leaf(c.index, []byte(c.b)), nodeOf(t, c.want); got != want {
			t.Errorf("Leaf(%d, %q) = %x, want %x", c.index, c.b, got, want)
		}
	}
	zero := merkle.Node{}
	for _, c := range []struct {
		level       int
		left, right merkle.Node
		want        string
	}{
		{1, zero, full(), "dc4262f6b50ef9e5059280feb0283c9b"},
		{10, full(), zero, "90005df02c783acfa6a4054977428fef"},
		{-1, zero, zero, "f17a9a0763019edf26b4fd902bbd8109"},
	} {
		if got, want := merkle.Join(c.level, c.left, c.right), nodeOf(t, c.want); got != want {
			t.Errorf("Join(%d, %x, %x) = %x, want %x", c.level, c.left, c.right, got, want)
		}
	}
	if merkle.MaxHeight != 10 || len(merkle.Node{}) != 16 {
		t.Error("the limits are not those of the document")
	}
}

// TestP6_1Leaf checks each bit of the index, and bytes of many lengths.
func TestP6_1Leaf(t *testing.T) {
	text := bytes.Repeat([]byte("0123456789 leaf "), 20)
	indices := map[int][4]byte{
		0: {}, 1: {0, 0, 0, 1}, 255: {0, 0, 0, 255}, 256: {0, 0, 1, 0}, 1023: {0, 0, 3, 255}, 65535: {0, 0, 255, 255}, 65536: {0, 1, 0, 0}, 0x89ABCDEF: {0x89, 0xAB, 0xCD, 0xEF},
		math.MaxUint32: {255, 255, 255, 255}, math.MaxUint32 + 1: {}, math.MaxUint32 + 2: {0, 0, 0, 1}, 7 << 40: {}, math.MaxInt: {255, 255, 255, 255}, math.MaxInt32: {127, 255, 255, 255},
		-1: {255, 255, 255, 255}, -2: {255, 255, 255, 254}, -256: {255, 255, 255, 0}, math.MinInt32: {128, 0, 0, 0}, math.MinInt: {}, math.MinInt + 5: {0, 0, 0, 5}, -math.MaxUint32: {0, 0, 0, 1},
	}
	for k := range 63 {
		var b [4]byte
		if k < 32 {
			b[3-k/8] = 1 << (k % 8)
		}
		indices[1<<k] = b
	}
	for index, written := range indices {
		for _, n := range []int{0, 1, 16, 51, len(text)} {
			want := hash([]byte{0}, written[:], text[:n])
			if got := merkle.Leaf(index, text[:n]); got != want {
				t.Errorf("Leaf(%d, %d bytes) = %x, want %x", index, n, got, want)
			}
		}
	}
	for n := range len(text) {
		want := hash([]byte{0, 0, 0, 0, 5}, text[:n])
		if got := merkle.Leaf(5, text[:n]); got != want {
			t.Errorf("Leaf(5, %d bytes) = %x, want %x", n, got, want)
		}
	}
	long := bytes.Repeat(text, 1000)
	if got, want := merkle.Leaf(9, long), hash([]byte{0, 0, 0, 0, 9}, long); got != want {
		t.Errorf("Leaf(9, %d bytes) = %x, want %x", len(long), got, want)
	}
	if merkle.Leaf(3, nil) != merkle.Leaf(3, []byte{}) {
		t.Error("nil bytes and no bytes have different leaf nodes")
	}
}

// TestP6_1Join checks all levels modulo 256, and each bit of the children.
func TestP6_1Join(t *testing.T) {
	nodes := someNodes(2)
	check := func(level int, left, right merkle.Node) {
		t.Helper()
		want := hash([]byte{1, byte((level%256 + 256) % 256)}, left[:], right[:])
		if got := merkle.Join(level, left, right); got != want {
			t.Errorf("Join(%d, %x, %x) = %x, want %x", level, left, right, got, want)
		}
	}
	for level := -600; level <= 600; level++ {
		check(level, nodes[0], nodes[1])
		check(level, nodes[1], nodes[0])
	}
	for _, level := range []int{math.MaxInt, math.MinInt, math.MinInt + 1, 1 << 32, 1<<32 + 3, -1 << 40} {
		check(level, nodes[0], nodes[1])
	}
	for bit := range 128 {
		one := merkle.Node{}
		one[bit/8] = 1 << (bit % 8)
		check(1, one, nodes[0])
		check(1, nodes[0], one)
	}
	check(2, nodes[0], nodes[0])
	check(0, merkle.Node{}, merkle.Node{})
}

func TestP6_2Root(t *testing.T) {
	nodes := someNodes(1024)
	for height := 0; height <= merkle.MaxHeight; height++ {
		leaves := nodes[:1<<height]
		if got, e := merkle.Root(leaves); got != top(leaves) || e != api.OK {
			t.Errorf("Root of %d leaves = %x, %d, want %x", len(leaves), got, e, top(leaves))
		}
	}
	if got, e := merkle.Root(nodes[7:8]); got != nodes[7] || e != api.OK {
		t.Errorf("Root of one leaf = %x, %d, want the leaf", got, e)
	}
	if got, e := merkle.Root(make([]merkle.Node, 8)); got != top(make([]merkle.Node, 8)) || e != api.OK {
		t.Errorf("Root of eight zero leaves = %x, %d", got, e)
	}
	var texts []merkle.Node
	for i := range 1024 {
		texts = append(texts, merkle.Leaf(i, nil))
	}
	if got, e := merkle.Root(texts); got != nodeOf(t, "58be26f30df8010b32234833968b6a77") || e != api.OK {
		t.Errorf("Root of the leaf nodes of 1024 empty leaves = %x, %d", got, e)
	}
}

// TestP6_2Leaves checks that every leaf matters, and where it stands.
func TestP6_2Leaves(t *testing.T) {
	leaves := someNodes(16)
	for i := range leaves {
		for k := range leaves {
			leaves[i], leaves[k] = leaves[k], leaves[i]
			if got, e := merkle.Root(leaves); got != top(leaves) || e != api.OK {
				t.Errorf("Root with the leaves %d and %d exchanged = %x, %d, want %x", i, k, got, e, top(leaves))
			}
			leaves[i], leaves[k] = leaves[k], leaves[i]
		}
	}
}

func TestP6_2Errors(t *testing.T) {
	for n, want := range wrongSizes() {
		if got, e := merkle.Root(someNodes(n)); got != (merkle.Node{}) || e != want {
			t.Errorf("Root of %d leaves = %x, %d, want %d", n, got, e, want)
		}
	}
	if got, e := merkle.Root(nil); got != (merkle.Node{}) || e != api.ErrArgument {
		t.Errorf("Root(nil) = %x, %d", got, e)
	}
}

func TestP6_3Path(t *testing.T) {
	nodes := someNodes(1024)
	for height := 0; height <= merkle.MaxHeight; height++ {
		leaves := nodes[:1<<height]
		step := max(1, len(leaves)/64-1) // all indices up to height 6, and many of the others
		for index := 0; index < len(leaves); index += step {
			want := way(leaves, index)
			if got, e := merkle.Path(leaves, index); !slices.Equal(got, want) || len(got) != height || e != api.OK {
				t.Fatalf("Path of the leaf %d of %d = %x, %d, want %x", index, len(leaves), got, e, want)
			}
		}
		last := len(leaves) - 1
		if got, e := merkle.Path(leaves, last); !slices.Equal(got, way(leaves, last)) || e != api.OK {
			t.Errorf("Path of the last leaf of %d = %x, %d", len(leaves), got, e)
		}
	}
}

func TestP6_3PathErrors(t *testing.T) {
	indices := []int{0, 1, -1, 3, 1024, 1025, math.MaxInt, math.MinInt}
	for n, want := range wrongSizes() {
		leaves := someNodes(n)
		for _, index := range indices {
			if got, e := merkle.Path(leaves, index); len(got) != 0 || e != want {
				t.Fatalf("Path of the leaf %d of %d = %x, %d, want %d", index, n, got, e, want)
			}
		}
	}
	if got, e := merkle.Path(nil, 0); len(got) != 0 || e != api.ErrArgument {
		t.Errorf("Path(nil, 0) = %x, %d", got, e)
	}
	for height := 0; height <= merkle.MaxHeight; height++ {
		leaves := someNodes(1 << height)
		for _, index := range []int{-1, -2, -len(leaves), len(leaves), len(leaves) + 1, 2 * len(leaves), 4096, math.MaxInt, math.MinInt} {
			if got, e := merkle.Path(leaves, index); len(got) != 0 || e != api.ErrNotFound {
				t.Errorf("Path of the leaf %d of %d = %x, %d", index, len(leaves), got, e)
			}
		}
	}
}

func TestP6_3Paths(t *testing.T) {
	nodes := someNodes(1024)
	for height := 0; height <= merkle.MaxHeight; height++ {
		leaves := nodes[:1<<height]
		paths := merkle.Paths(leaves)
		for range 2 { // it can be ranged over again
			next := 0
			for index, path := range paths {
				if index != next || len(path) != height {
					t.Fatalf("Paths of %d leaves yields %d with %d nodes, want the index %d", len(leaves), index, len(path), next)
				}
				if height <= 6 || index%61 == 0 || index == len(leaves)-1 {
					if want := way(leaves, index); !slices.Equal(path, want) {
						t.Fatalf("Paths of %d leaves yields %d, %x, want %x", len(leaves), index, path, want)
					}
				}
				next++
			}
			if next != len(leaves) {
				t.Fatalf("Paths of %d leaves yields %d paths", len(leaves), next)
			}
		}
	}
}

// TestP6_3PathsStops checks that nothing is yielded after yield has returned false.
func TestP6_3PathsStops(t *testing.T) {
	leaves := someNodes(16)
	for stop := range leaves {
		calls := 0
		merkle.Paths(leaves)(func(index int, path []merkle.Node) bool {
			if index != calls {
				t.Errorf("the call %d of yield has the index %d", calls, index)
			}
			calls++
			return index < stop
		})
		if calls != stop+1 {
			t.Errorf("%d calls of yield, which returns false for %d", calls, stop)
		}
	}
}

func TestP6_3PathsOfNoTree(t *testing.T) {
	for n := range wrongSizes() {
		for index, path := range merkle.Paths(someNodes(n)) {
			t.Fatalf("Paths of %d leaves yields %d, %x", n, index, path)
		}
	}
	for index, path := range merkle.Paths(nil) {
		t.Fatalf("Paths(nil) yields %d, %x", index, path)
	}
}

// follow returns the root that a leaf and a path lead to: the root of the path without its last node, below the last one.
func follow(leaf merkle.Node, index int, path []merkle.Node) merkle.Node {
	n := len(path)
	if n == 0 {
		return leaf
	}
	half := 1 << (n - 1)
	if index < half {
		return parent(n, follow(leaf, index, path[:n-1]), path[n-1])
	}
	return parent(n, path[n-1], follow(leaf, index-half, path[:n-1]))
}

// TestP6_4From checks all indices with nodes that belong to no tree.
func TestP6_4From(t *testing.T) {
	nodes := someNodes(merkle.MaxHeight + 1)
	for height := 0; height <= merkle.MaxHeight; height++ {
		path := nodes[1 : 1+height]
		for index := range 1 << height {
			want := follow(nodes[0], index, path)
			if got, e := merkle.From(nodes[0], index, path); got != want || e != api.OK {
				t.Fatalf("From at %d with %d nodes = %x, %d, want %x", index, height, got, e, want)
			}
			if !merkle.Verify(want, nodes[0], index, path) {
				t.Fatalf("Verify at %d with %d nodes is false", index, height)
			}
		}
	}
	if got, e := merkle.From(nodes[3], 0, nil); got != nodes[3] || e != api.OK {
		t.Errorf("From with no path = %x, %d, want the leaf", got, e)
	}
}

func TestP6_4Errors(t *testing.T) {
	nodes := someNodes(100)
	check := func(index, height int, want api.Errno) {
		t.Helper()
		path := nodes[1 : 1+height]
		if got, e := merkle.From(nodes[0], index, path); got != (merkle.Node{}) || e != want {
			t.Errorf("From at %d with %d nodes = %x, %d, want %d", index, height, got, e, want)
		}
		if merkle.Verify(merkle.Node{}, nodes[0], index, path) || merkle.Verify(nodes[0], nodes[0], index, path) {
			t.Errorf("Verify at %d with %d nodes is true", index, height)
		}
	}
	for height := 0; height <= merkle.MaxHeight; height++ {
		for _, index := range []int{-1, -2, -1 << height, 1 << height, 1<<height + 1, 2 << height, 1 << 32, 1 << 62, math.MaxInt, math.MinInt} {
			check(index, height, api.ErrNotFound)
		}
	}
	for _, height := range []int{11, 12, 32, 63, 64, 65, 99} {
		for _, index := range []int{0, 1, -1, 1023, 1024, math.MaxInt, math.MinInt} {
			check(index, height, api.ErrLimit)
		}
	}
}

// TestP6_4Verify checks that every change of an argument is noticed.
func TestP6_4Verify(t *testing.T) {
	leaves := someNodes(8)
	root := top(leaves)
	for index, leaf := range leaves {
		path := way(leaves, index)
		if !merkle.Verify(root, leaf, index, path) {
			t.Fatalf("the leaf %d is rejected", index)
		}
		for other := -1; other <= 8; other++ {
			if other != index && merkle.Verify(root, leaf, other, path) {
				t.Errorf("the leaf %d is accepted at %d", index, other)
			}
		}
		for bit := range 128 {
			r, l := root, leaf
			r[bit/8] ^= 1 << (bit % 8)
			l[bit/8] ^= 1 << (bit % 8)
			if merkle.Verify(r, leaf, index, path) || merkle.Verify(root, l, index, path) {
				t.Fatalf("the leaf %d is accepted with a change of the bit %d", index, bit)
			}
			for k := range path {
				p := slices.Clone(path)
				p[k][bit/8] ^= 1 << (bit % 8)
				if merkle.Verify(root, leaf, index, p) {
					t.Fatalf("the leaf %d is accepted with a change of the bit %d of the node %d", index, bit, k)
				}
			}
		}
		if merkle.Verify(root, leaf, index, path[:2]) || merkle.Verify(root, leaf, index, append(path, leaf)) || merkle.Verify(root, leaf, index, nil) {
			t.Errorf("the leaf %d is accepted with a path of another length", index)
		}
	}
	if !merkle.Verify(root, root, 0, nil) || merkle.Verify(root, root, 1, nil) {
		t.Error("a root is the only leaf of a tree of height 0")
	}
}

// subtrees returns the roots of the complete subtrees of leaves, the largest one first.
func subtrees(leaves []merkle.Node) []merkle.Node {
	var roots []merkle.Node
	for len(leaves) > 0 {
		size := 1
		for 2*size <= len(leaves) {
			size *= 2
		}
		roots = append(roots, top(leaves[:size]))
		leaves = leaves[size:]
	}
	return roots
}

// checkBuilder compares a Builder with the leaves that were added to it.
func checkBuilder(t *testing.T, b *merkle.Builder, leaves []merkle.Node) {
	t.Helper()
	n := len(leaves)
	if b.Len() != n {
		t.Fatalf("after %d leaves: Len = %d", n, b.Len())
	}
	want := subtrees(leaves)
	if got := b.Pending(); !slices.Equal(got, want) {
		t.Fatalf("after %d leaves: Pending = %x, want %x", n, got, want)
	}
	got, e := b.Root()
	if bits.OnesCount(uint(n)) == 1 {
		if got != top(leaves) || e != api.OK {
			t.Fatalf("after %d leaves: Root = %x, %d, want %x", n, got, e, top(leaves))
		}
	} else if got != (merkle.Node{}) || e != api.ErrState {
		t.Fatalf("after %d leaves: Root = %x, %d", n, got, e)
	}
}

// TestP6_5Builder adds as many leaves as possible, and more, to a Builder of NewBuilder and to a zero value.
func TestP6_5Builder(t *testing.T) {
	nodes := someNodes(1024)
	var zero merkle.Builder
	for _, b := range []*merkle.Builder{merkle.NewBuilder(), &zero} {
		checkBuilder(t, b, nil)
		for i, leaf := range nodes {
			if e := b.Add(leaf); e != api.OK {
				t.Fatalf("Add of the leaf %d = %d", i, e)
			}
			if i < 130 || i%37 == 0 || i > 1000 {
				checkBuilder(t, b, nodes[:i+1])
			}
		}
		for range 3 {
			if e := b.Add(nodes[5]); e != api.ErrLimit {
				t.Errorf("Add after 1024 leaves = %d", e)
			}
			checkBuilder(t, b, nodes)
		}
	}
}

func TestP6_5Nil(t *testing.T) {
	var b *merkle.Builder
	if e := b.Add(merkle.Node{1}); e != api.ErrArgument {
		t.Errorf("Add = %d", e)
	}
	if b.Len() != 0 || len(b.Pending()) != 0 {
		t.Errorf("Len = %d, Pending = %x", b.Len(), b.Pending())
	}
	if got, e := b.Root(); got != (merkle.Node{}) || e != api.ErrArgument {
		t.Errorf("Root = %x, %d", got, e)
	}
}

// TestP6_5Independent checks that Builders share nothing with one another, nor with what they return.
func TestP6_5Independent(t *testing.T) {
	nodes := someNodes(14)
	a, b := merkle.NewBuilder(), merkle.NewBuilder()
	for _, leaf := range nodes[:7] {
		a.Add(leaf)
		pending := a.Pending()
		for k := range pending {
			pending[k] = merkle.Node{}
		}
	}
	checkBuilder(t, b, nil)
	for _, leaf := range nodes[7:] {
		b.Add(leaf)
	}
	checkBuilder(t, a, nodes[:7])
	checkBuilder(t, b, nodes[7:])
	c := *a // the nodes are an array, so that this is a copy
	c.Add(nodes[0])
	checkBuilder(t, a, nodes[:7])
	checkBuilder(t, &c, append(slices.Clone(nodes[:7]), nodes[0]))
}

// TestP6_5ZeroLeaves checks that a leaf may be a node of zero bytes.
func TestP6_5ZeroLeaves(t *testing.T) {
	b := merkle.NewBuilder()
	for n := range 20 {
		checkBuilder(t, b, make([]merkle.Node, n))
		b.Add(merkle.Node{})
	}
}

// noCollision checks that two leaves with their paths show no collision, whichever of them comes first.
func noCollision(t *testing.T, name string, index int, leafA merkle.Node, pathA []merkle.Node, leafB merkle.Node, pathB []merkle.Node) {
	t.Helper()
	if two, ok := merkle.Collision(index, leafA, pathA, leafB, pathB); ok || two != (merkle.Two{}) {
		t.Errorf("%s: Collision = %v, %t", name, two, ok)
	}
	if two, ok := merkle.Collision(index, leafB, pathB, leafA, pathA); ok || two != (merkle.Two{}) {
		t.Errorf("%s, exchanged: Collision = %v, %t", name, two, ok)
	}
}

// TestP6_6None checks the cases without a collision; package collisions has the others.
func TestP6_6None(t *testing.T) {
	leaves := someNodes(8)
	for index, leaf := range leaves {
		path := way(leaves, index)
		noCollision(t, "the same leaf and path", index, leaf, path, leaf, slices.Clone(path))
		noCollision(t, "another leaf", index, leaf, path, leaves[(index+1)%8], path)
		noCollision(t, "the leaf and path of another index", index, leaf, path, leaves[index^1], way(leaves, index^1))
		noCollision(t, "a shorter path", index, leaf, path, leaf, path[:2])
		for k := range path {
			other := slices.Clone(path)
			other[k] = leaf
			noCollision(t, "another path", index, leaf, path, leaf, other)
		}
		for _, at := range []int{-1, 8, math.MaxInt, math.MinInt} {
			noCollision(t, "an index that is not in the tree", at, leaf, path, leaves[(index+1)%8], path)
			noCollision(t, "the same leaf and path at an index that is not in the tree", at, leaf, path, leaf, path)
		}
	}
	long := someNodes(11)
	noCollision(t, "paths that are too long", 0, leaves[0], long, leaves[1], long)
	noCollision(t, "two leaves of height 0", 0, leaves[0], nil, leaves[1], nil)
	noCollision(t, "the same leaf of height 0", 0, leaves[0], nil, leaves[0], nil)
	noCollision(t, "two leaves of height 0 at an index that is not 0", 1, leaves[0], nil, leaves[1], nil)
}

// TestP6_6Lengths has the same root with paths of different lengths.
func TestP6_6Lengths(t *testing.T) {
	leaves := someNodes(8)
	root := top(leaves)
	noCollision(t, "the root as a leaf", 0, leaves[0], way(leaves, 0), root, nil)
	for index, leaf := range leaves {
		path := way(leaves, index)
		noCollision(t, "a path without its last node", index, leaf, path, leaf, path[:len(path)-1])
		if index > 0 { // the root itself at an index of its own, which is not in a tree of height 0
			noCollision(t, "the root as a leaf", index, leaf, path, root, nil)
		}
	}
}

// TestP6_7Trees checks that Root, Path, Paths, From, Verify and a Builder agree.
func TestP6_7Trees(t *testing.T) {
	for height := 0; height <= merkle.MaxHeight; height++ {
		leaves := someNodes(1 << height)
		root, e := merkle.Root(leaves)
		if e != api.OK {
			t.Fatalf("Root of %d leaves: %d", len(leaves), e)
		}
		b := merkle.NewBuilder()
		for _, leaf := range leaves {
			b.Add(leaf)
		}
		if built, e := b.Root(); built != root || e != api.OK {
			t.Errorf("a Builder with %d leaves has the root %x, %d, want %x", len(leaves), built, e, root)
		}
		for index, path := range merkle.Paths(leaves) {
			if from, e := merkle.From(leaves[index], index, path); from != root || e != api.OK {
				t.Fatalf("From of the leaf %d of %d = %x, %d, want %x", index, len(leaves), from, e, root)
			}
			if !merkle.Verify(root, leaves[index], index, path) {
				t.Fatalf("Verify rejects the leaf %d of %d", index, len(leaves))
			}
		}
	}
}

// TestP6_7Arguments checks that arguments are not modified, nor what follows them in memory.
func TestP6_7Arguments(t *testing.T) {
	text := []byte("some bytes of a leaf, and more of them")
	merkle.Leaf(1, text[:10])
	if string(text) != "some bytes of a leaf, and more of them" {
		t.Errorf("Leaf has changed its argument to %q", text)
	}
	nodes := someNodes(32)
	leaves := nodes[:16]
	merkle.Root(leaves)
	merkle.Path(leaves, 5)
	for _, path := range merkle.Paths(leaves) {
		clear(path)
	}
	merkle.From(nodes[20], 7, nodes[:5])
	merkle.Verify(nodes[20], nodes[20], 7, nodes[:5])
	merkle.Collision(7, nodes[20], nodes[:5], nodes[21], nodes[:5])
	if !slices.Equal(nodes, someNodes(32)) {
		t.Error("an argument was changed")
	}
}

// TestP6_7Results checks that results share no memory with arguments or with other results.
func TestP6_7Results(t *testing.T) {
	leaves := someNodes(8)
	path, _ := merkle.Path(leaves, 3)
	clear(path)
	if again, _ := merkle.Path(leaves, 3); !slices.Equal(again, way(leaves, 3)) {
		t.Error("a change of a path changes the next one")
	}
	var kept [][]merkle.Node
	for index, path := range merkle.Paths(leaves) {
		if !slices.Equal(path, way(leaves, index)) {
			t.Errorf("the path of the leaf %d is that of a list that was changed", index)
		}
		kept = append(kept, slices.Clone(path))
		clear(path[:cap(path)])
	}
	for index, path := range kept {
		if !slices.Equal(path, way(leaves, index)) {
			t.Errorf("the path of the leaf %d has changed", index)
		}
	}
	var all [][]merkle.Node
	for _, path := range merkle.Paths(leaves) {
		all = append(all, path)
	}
	for index, path := range all {
		if !slices.Equal(path, way(leaves, index)) {
			t.Errorf("the path of the leaf %d was changed by a later one", index)
		}
	}
}

// TestP6_7Example1 is the first example of the chapter.
func TestP6_7Example1(t *testing.T) {
	n := someNodes(4)
	a, b, c, d := n[0], n[1], n[2], n[3]
	ab, cd := merkle.Join(1, a, b), merkle.Join(1, c, d)
	if root, e := merkle.Root(n); root != merkle.Join(2, ab, cd) || e != api.OK {
		t.Errorf("Root = %x, %d", root, e)
	}
	if path, e := merkle.Path(n, 2); !slices.Equal(path, []merkle.Node{d, ab}) || e != api.OK {
		t.Errorf("Path = %x, %d", path, e)
	}
}

// TestP6_7Example2 is the second example of the chapter.
func TestP6_7Example2(t *testing.T) {
	n := someNodes(3)
	b := merkle.NewBuilder()
	for _, leaf := range n {
		b.Add(leaf)
	}
	if got := b.Pending(); !slices.Equal(got, []merkle.Node{merkle.Join(1, n[0], n[1]), n[2]}) {
		t.Errorf("Pending = %x", got)
	}
	if got, e := b.Root(); got != (merkle.Node{}) || e != api.ErrState {
		t.Errorf("Root = %x, %d", got, e)
	}
}
