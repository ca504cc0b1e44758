package collisions_test

import (
	"math/rand"
	"slices"
	"testing"

	"bulletin/merkle"
)

// pair has two children.
type pair = [2]merkle.Node

func join(level int, p pair) merkle.Node {
	return weak(slices.Concat([]byte{1, byte(level)}, p[0][:], p[1][:]))
}

// pairs returns the children at all levels from 1 on, on the way from a leaf to the root, and the root.
func pairs(index int, leaf merkle.Node, path []merkle.Node) ([]pair, merkle.Node) {
	var all []pair
	node := leaf
	for k, sibling := range path {
		p := pair{node, sibling}
		if index/(1<<k)%2 == 1 {
			p = pair{sibling, node}
		}
		all = append(all, p)
		node = join(k+1, p)
	}
	return all, node
}

// expected returns what the document says of two leaves whose index is in the tree.
func expected(index int, leafA merkle.Node, pathA []merkle.Node, leafB merkle.Node, pathB []merkle.Node) (merkle.Two, bool) {
	a, rootA := pairs(index, leafA, pathA)
	b, rootB := pairs(index, leafB, pathB)
	if len(a) != len(b) || rootA != rootB || leafA == leafB && slices.Equal(pathA, pathB) {
		return merkle.Two{}, false
	}
	level := len(a)
	for a[level-1] == b[level-1] {
		level--
	}
	return merkle.Two{Level: level, A: a[level-1], B: b[level-1]}, true
}

// checkCollision compares Collision with the document, and returns the level that it finds.
func checkCollision(t *testing.T, index int, leafA merkle.Node, pathA []merkle.Node, leafB merkle.Node, pathB []merkle.Node) int {
	t.Helper()
	want, wanted := expected(index, leafA, pathA, leafB, pathB)
	two, ok := merkle.Collision(index, leafA, pathA, leafB, pathB)
	if two != want || ok != wanted {
		t.Fatalf("Collision(%d, %x, %x, %x, %x) = %x, %t, want %x, %t", index, leafA, pathA, leafB, pathB, two, ok, want, wanted)
	}
	if ok && (two.A == two.B || merkle.Join(two.Level, two.A[0], two.A[1]) != merkle.Join(two.Level, two.B[0], two.B[1])) {
		t.Fatalf("Collision(%d, %x, %x, %x, %x) = %x, which is no collision", index, leafA, pathA, leafB, pathB, two)
	}
	return two.Level
}

func nodeOf(n int) merkle.Node { return merkle.Node{byte(n)} }

// TestP6_6Small checks all leaves and paths of the trees of the heights 0 to 2, at all indices.
func TestP6_6Small(t *testing.T) {
	for height := range 3 {
		const base = 5 // so many nodes
		count := 1
		for range height + 1 {
			count *= base
		}
		split := func(n int) (merkle.Node, []merkle.Node) {
			var path []merkle.Node
			leaf := nodeOf(n % base)
			for range height {
				n /= base
				path = append(path, nodeOf(n%base))
			}
			return leaf, path
		}
		found := map[int]int{}
		for index := range 1 << height {
			for a := range count {
				for b := range count {
					leafA, pathA := split(a)
					leafB, pathB := split(b)
					found[checkCollision(t, index, leafA, pathA, leafB, pathB)]++
				}
			}
		}
		for level := range height + 1 {
			if found[level] == 0 {
				t.Errorf("no two leaves of a tree of height %d have the level %d", height, level)
			}
		}
	}
}

// TestP6_6High checks leaves and paths of all heights without a pattern, of which some differ in a few nodes only.
func TestP6_6High(t *testing.T) {
	random := rand.New(rand.NewSource(6))
	for height := 1; height <= merkle.MaxHeight; height++ {
		found := map[int]int{}
		for range 20000 {
			index := random.Intn(1 << height)
			leafA, pathA := nodeOf(random.Intn(values)), make([]merkle.Node, height)
			for k := range pathA {
				pathA[k] = nodeOf(random.Intn(values))
			}
			leafB, pathB := leafA, slices.Clone(pathA)
			for range random.Intn(3) {
				pathB[random.Intn(height)] = nodeOf(random.Intn(values))
			}
			if random.Intn(2) == 0 {
				leafB = nodeOf(random.Intn(values))
			}
			found[checkCollision(t, index, leafA, pathA, leafB, pathB)]++
		}
		for level := range height + 1 {
			if found[level] == 0 {
				t.Errorf("no two leaves of a tree of height %d have the level %d", height, level)
			}
		}
	}
}

// TestP6_6Lengths checks that paths of different lengths show nothing, although they lead to the same root.
func TestP6_6Lengths(t *testing.T) {
	random := rand.New(rand.NewSource(66))
	same := 0
	for range 20000 {
		pathA := make([]merkle.Node, random.Intn(merkle.MaxHeight+1))
		pathB := make([]merkle.Node, random.Intn(merkle.MaxHeight+1))
		if len(pathA) == len(pathB) {
			continue
		}
		for k := range pathA {
			pathA[k] = nodeOf(random.Intn(values))
		}
		for k := range pathB {
			pathB[k] = nodeOf(random.Intn(values))
		}
		index := random.Intn(1 << min(len(pathA), len(pathB)))
		leafA, leafB := nodeOf(random.Intn(values)), nodeOf(random.Intn(values))
		if a, _ := merkle.From(leafA, index, pathA); merkle.Verify(a, leafB, index, pathB) {
			same++
		}
		checkCollision(t, index, leafA, pathA, leafB, pathB)
	}
	if same < 100 {
		t.Errorf("only %d of the roots are the same", same)
	}
}

// TestP6_6Errors checks that leaves that are in no tree show nothing, although they would lead to the same root.
func TestP6_6Errors(t *testing.T) {
	check := func(index int, leafA merkle.Node, pathA []merkle.Node, leafB merkle.Node, pathB []merkle.Node) {
		t.Helper()
		if two, ok := merkle.Collision(index, leafA, pathA, leafB, pathB); ok || two != (merkle.Two{}) {
			t.Fatalf("Collision(%d, %x, %x, %x, %x) = %x, %t", index, leafA, pathA, leafB, pathB, two, ok)
		}
	}
	for a := range values {
		for b := range values {
			pathA, pathB := []merkle.Node{nodeOf(a), nodeOf(1)}, []merkle.Node{nodeOf(b), nodeOf(1)}
			for _, index := range []int{-1, -4, 4, 5, 8, 1 << 40} {
				check(index, nodeOf(b), pathA, nodeOf(a), pathB)
			}
			long := make([]merkle.Node, merkle.MaxHeight+1)
			check(0, nodeOf(a), long, nodeOf(b), long)
		}
	}
}

// TestP6_7Collisions checks that two accepted leaves at the same index always show a collision.
func TestP6_7Collisions(t *testing.T) {
	random := rand.New(rand.NewSource(67))
	leaves := make([]merkle.Node, 8)
	for i := range leaves {
		leaves[i] = merkle.Leaf(i, []byte("leaf"))
	}
	root, _ := merkle.Root(leaves)
	accepted := 0
	for index, path := range merkle.Paths(leaves) {
		for range 5000 {
			other, forged := nodeOf(random.Intn(values)), slices.Clone(path)
			forged[random.Intn(len(forged))] = nodeOf(random.Intn(values))
			if other == leaves[index] || !merkle.Verify(root, other, index, forged) {
				continue
			}
			accepted++
			two, ok := merkle.Collision(index, leaves[index], path, other, forged)
			if !ok || two.A == two.B || merkle.Join(two.Level, two.A[0], two.A[1]) != merkle.Join(two.Level, two.B[0], two.B[1]) {
				t.Fatalf("the leaf %x is accepted at %d with %x, but Collision = %x, %t", other, index, forged, two, ok)
			}
		}
	}
	if accepted < 1000 {
		t.Errorf("only %d forged leaves were accepted", accepted)
	}
}
