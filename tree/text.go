package tree

import (
	"ward/api"
	"ward/number"
	"ward/plane"
)

// What a leaf's and a node's text begin with.
const (
	leafMark = 1
	nodeMark = 2
)

// What stands in a proof behind a child's digest.
const (
	hidden = 0
	shown  = 1
)

// leafText: the text of a leaf of these points.
func leafText(points []api.Point) string {
	return string(appendLeaf(nil, points))
}

// appendLeaf: a leaf's text is its proof too.
func appendLeaf(text []byte, points []api.Point) []byte {
	text = append(text, leafMark, byte(len(points)))
	for _, p := range points {
		text = appendNumbers(text, p.ID, p.X, p.Y)
	}
	return text
}

// nodeText: the text of a node of these children.
func nodeText(children []Node) string {
	text := []byte{nodeMark, byte(len(children))}
	for _, child := range children {
		text = appendChild(text, child)
	}
	return string(text)
}

// appendChild: what a node says of a child.
func appendChild(text []byte, child Node) []byte {
	box := child.Box
	text = appendNumbers(text, box.MinX, box.MinY, box.MaxX, box.MaxY, child.Count)
	return append(text, child.Digest[:]...)
}

// appendNumbers: the wrap-round to 32 bits makes numbers below 0 what a text has for them.
func appendNumbers(text []byte, numbers ...int) []byte {
	for _, n := range numbers {
		text = number.Append(text, uint32(n))
	}
	return text
}

// Proof: the text of the tree below a root, with the children that must be shown, by their boxes.
func Proof(root Node, mustShow func(plane.Box) bool) string {
	return string(appendProof(nil, root, mustShow))
}

func appendProof(text []byte, n Node, mustShow func(plane.Box) bool) []byte {
	if len(n.Children) == 0 {
		return appendLeaf(text, n.Points)
	}
	text = append(text, nodeMark, byte(len(n.Children)))
	for _, child := range n.Children {
		text = appendChild(text, child)
		if !mustShow(child.Box) {
			text = append(text, hidden)
			continue
		}
		text = append(text, shown)
		text = appendProof(text, child, mustShow)
	}
	return text
}
