package signer

import "bulletin/api"

// Signer signs with the leaves of a key one after another, each of them once.
type Signer struct {
	key  key
	next int
}

// New returns a signer whose next leaf is next.
func New(s Secret, next int) (*Signer, api.Errno) {
	if e := s.Check(); e != api.OK {
		return nil, e
	}
	if next < 0 || next > 1<<s.Height {
		return nil, api.ErrRange
	}
	return &Signer{newKey(s), next}, api.OK
}

// last returns the leaf that is reserved for Last.
func (s *Signer) last() int { return 1<<s.key.secret.Height - 1 }

// Sign signs a digest with the next leaf, unless it is the last one.
func (s *Signer) Sign(digest [16]byte) (Signature, api.Errno) {
	if s == nil {
		return Signature{}, api.ErrArgument
	}
	leaf := s.next
	if leaf >= s.last() {
		return Signature{}, api.ErrUsed
	}
	s.next++
	return s.key.sign(leaf, digest), api.OK
}

// Last signs a digest with the last leaf, which is reserved for the introduction of the next key.
func (s *Signer) Last(digest [16]byte) (Signature, api.Errno) {
	if s == nil {
		return Signature{}, api.ErrArgument
	}
	leaf := s.last()
	if s.next > leaf {
		return Signature{}, api.ErrUsed
	}
	s.next = leaf + 1
	return s.key.sign(leaf, digest), api.OK
}

// Next returns the next leaf, Left the number of leaves that Sign can still use, and Public the public key.
func (s *Signer) Next() int {
	if s == nil {
		return 0
	}
	return s.next
}

func (s *Signer) Left() int {
	if s == nil {
		return 0
	}
	return max(0, s.last()-s.next)
}

func (s *Signer) Public() Public {
	if s == nil {
		return Public{}
	}
	return s.key.public()
}

// Skip makes a leaf the next one, if it is not before the next leaf.
func (s *Signer) Skip(leaf int) api.Errno {
	switch {
	case s == nil:
		return api.ErrArgument
	case leaf > s.last()+1:
		return api.ErrRange
	case leaf < s.next:
		return api.ErrSequence
	}
	s.next = leaf
	return api.OK
}
