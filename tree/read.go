package tree

import (
	"ward/api"
	"ward/number"
	"ward/plane"
)

// How many bytes a text has of a point, of what a node says of a child, and of the latter ahead of the digest.
const (
	pointSize   = 3 * 4
	childSize   = digestPlace + 32
	digestPlace = 5 * 4
)

// Read takes a proof apart: ok is false, if it is the text of no tree. What it says of boxes, numbers and digests is kept as it stands, and is not held against what is shown; the root's are those of what stands right below it.
func Read(proof string) (root Node, ok bool) {
	r := &reader{rest: proof, ids: map[int]struct{}{}}
	root, ok = r.node(1)
	if !ok || r.rest != "" {
		return Node{}, false
	}
	return made(root), true
}

// reader: what of a proof is still to be read, and the ids that were.
type reader struct {
	rest string
	ids  map[int]struct{}
}

// take gives the next bytes, if there are as many.
func (r *reader) take(size int) (text string, ok bool) {
	if len(r.rest) < size {
		return "", false
	}
	text, r.rest = r.rest[:size], r.rest[size:]
	return text, true
}

// node reads a leaf or a node that is so deep: the root is 1 deep, and it alone may be a leaf of none. The limit ends the reading of any text.
func (r *reader) node(deep int) (n Node, ok bool) {
	head, ok := r.take(2)
	if !ok || deep > api.MaxDeep {
		return Node{}, false
	}
	mark, size := head[0], int(head[1])
	switch {
	case size > groupSize:
		return Node{}, false
	case mark == leafMark && (size > 0 || deep == 1):
		n.Points, ok = several(size, r.point)
		return n, ok
	case mark == nodeMark && size > 0:
		n.Children, ok = several(size, func() (Node, bool) { return r.child(deep) })
		return n, ok
	}
	return Node{}, false
}

// several reads as many of a kind.
func several[T any](size int, read func() (T, bool)) ([]T, bool) {
	var all []T
	for range size {
		one, ok := read()
		if !ok {
			return nil, false
		}
		all = append(all, one)
	}
	return all, true
}

// point reads a point of a leaf.
func (r *reader) point() (p api.Point, ok bool) {
	text, ok := r.take(pointSize)
	if !ok {
		return api.Point{}, false
	}
	p = api.Point{ID: numberOf(text, 0), X: numberOf(text, 1), Y: numberOf(text, 2)}
	_, twice := r.ids[p.ID]
	r.ids[p.ID] = struct{}{}
	return p, plane.IsID(p.ID) && !twice && plane.IsCoord(p.X) && plane.IsCoord(p.Y)
}

// child reads what a node that is so deep says of a child, and the child, if it is shown.
func (r *reader) child(deep int) (child Node, ok bool) {
	text, ok := r.take(childSize + 1)
	if !ok {
		return Node{}, false
	}
	child.Box = plane.Box{MinX: numberOf(text, 0), MinY: numberOf(text, 1), MaxX: numberOf(text, 2), MaxY: numberOf(text, 3)}
	child.Count = numberOf(text, 4)
	copy(child.Digest[:], text[digestPlace:childSize])
	if !child.Box.MayBe() || child.Count < 1 || child.Count > api.MaxPoints {
		return Node{}, false
	}
	switch text[childSize] {
	case hidden:
		return child, true
	case shown:
		below, ok := r.node(deep + 1)
		child.Points, child.Children = below.Points, below.Children
		return child, ok
	}
	return Node{}, false
}

// numberOf gives a text's number of that place, by 32 bits with a sign: so those below 0 come back out of what a text has for them.
func numberOf(text string, place int) int {
	return int(int32(number.At(text, 4*place)))
}
