// Package tree: the leaves and nodes over points in order, their texts and proofs, and the reading of these.
package tree

import (
	"ward/api"
	"ward/digest"
	"ward/plane"
)

const groupSize = 4

// Node: a leaf, which has points, or a node, which has children; or, read out of a proof, a child that is hidden, which has neither.
type Node struct {
	Points   []api.Point
	Children []Node
	Box      plane.Box // of a leaf of none it means nothing
	Count    int       // of the points below it
	Digest   [32]byte  // of its text
}

// Build makes the tree of points that are in order, and gives its root. The leaves share the points' memory.
func Build(points []api.Point) Node {
	if len(points) == 0 {
		return leafOf(nil)
	}
	var level []Node
	for _, group := range fours(points) {
		level = append(level, leafOf(group))
	}
	for len(level) > 1 {
		level = above(level)
	}
	return level[0]
}

// above puts the nodes of a level into those of the next.
func above(level []Node) []Node {
	var next []Node
	for _, group := range fours(level) {
		next = append(next, nodeOf(group))
	}
	return next
}

// fours cuts a list into groups of four; the last one may have fewer. The third index leaves a group no room to grow into the next.
func fours[T any](all []T) [][]T {
	var groups [][]T
	for from := 0; from < len(all); from += groupSize {
		to := min(from+groupSize, len(all))
		groups = append(groups, all[from:to:to])
	}
	return groups
}

// leafOf makes the leaf of at most four points.
func leafOf(points []api.Point) Node {
	leaf := Node{Points: points, Count: len(points)}
	if len(points) > 0 {
		leaf.Box = plane.BoxOf(points[0])
	}
	for _, p := range points {
		leaf.Box = leaf.Box.Join(plane.BoxOf(p))
	}
	leaf.Digest = digest.Of(leafText(points))
	return leaf
}

// nodeOf makes the node of one to four children.
func nodeOf(children []Node) Node {
	node := Node{Children: children, Box: children[0].Box}
	for _, child := range children {
		node.Box = node.Box.Join(child.Box)
		node.Count += child.Count
	}
	node.Digest = digest.Of(nodeText(children))
	return node
}
