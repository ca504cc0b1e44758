package merkle

import "bulletin/api"

// Builder computes a root from leaves that arrive one by one, and keeps at most one node for each level.
type Builder struct {
	n     int                 // the number of leaves
	roots [MaxHeight + 1]Node // by level, the root of the complete subtree of this height if its bit of n is 1
}

// NewBuilder returns a builder without leaves.
func NewBuilder() *Builder { return &Builder{} }

// has reports whether one of the complete subtrees has this height.
func (b *Builder) has(level int) bool { return b.n>>level&1 == 1 }

// Add adds a leaf.
func (b *Builder) Add(leaf Node) api.Errno {
	if b == nil {
		return api.ErrArgument
	}
	if b.n >= maxLeaves {
		return api.ErrLimit
	}
	node, level := leaf, 0
	for b.has(level) { // two subtrees of the same height become one
		node = Join(level+1, b.roots[level], node)
		level++
	}
	b.roots[level] = node
	b.n++
	return api.OK
}

// Len returns the number of leaves, and Pending the nodes that are kept, the highest level first.
func (b *Builder) Len() int {
	if b == nil {
		return 0
	}
	return b.n
}

func (b *Builder) Pending() []Node {
	if b == nil {
		return nil
	}
	var pending []Node
	for level := MaxHeight; level >= 0; level-- {
		if b.has(level) {
			pending = append(pending, b.roots[level])
		}
	}
	return pending
}

// Root returns the root if the number of leaves is a power of two.
func (b *Builder) Root() (Node, api.Errno) {
	if b == nil {
		return Node{}, api.ErrArgument
	}
	pending := b.Pending()
	if len(pending) != 1 {
		return Node{}, api.ErrState
	}
	return pending[0], api.OK
}
