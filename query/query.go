// Package query: which queries may be, what the answer to one is, and what must be shown to it.
package query

import (
	"slices"

	"ward/api"
	"ward/plane"
	"ward/tree"
)

// MayBe: what the kind does not need is not looked at.
func MayBe(q api.Query) bool {
	switch q.Kind {
	case api.Window:
		return windowOf(q).MayBe()
	case api.Near:
		return plane.IsCoord(q.X) && plane.IsCoord(q.Y) && 1 <= q.K && q.K <= api.MaxK
	}
	return false
}

// Answer is that of the points that are shown below the root, to a query that may be. The list is new.
func Answer(root tree.Node, q api.Query) []api.Point {
	if q.Kind == api.Near {
		return nearest(root, q)
	}
	answer := appendWithin(nil, root, windowOf(q))
	// The leaves of a proof may have their points in whatever order.
	slices.SortFunc(answer, plane.Compare)
	return answer
}

// MustShow: a child of that box must be shown to a query that has that answer.
func MustShow(q api.Query, answer []api.Point, box plane.Box) bool {
	if q.Kind == api.Window {
		return windowOf(q).Meets(box)
	}
	if len(answer) < q.K {
		return true
	}
	last := plane.BoxOf(answer[len(answer)-1])
	return box.Distance(q.X, q.Y) <= last.Distance(q.X, q.Y)
}

// LacksNone: every child that must be shown is.
func LacksNone(root tree.Node, q api.Query, answer []api.Point) bool {
	return tree.Every(root, func(child tree.Node) bool {
		return child.IsShown() || !MustShow(q, answer, child.Box)
	})
}

// WastesNone: every child that is shown must be.
func WastesNone(root tree.Node, q api.Query, answer []api.Point) bool {
	return tree.Every(root, func(child tree.Node) bool {
		return !child.IsShown() || MustShow(q, answer, child.Box)
	})
}

// windowOf is the box of a Window.
func windowOf(q api.Query) plane.Box {
	return plane.Box{MinX: q.MinX, MinY: q.MinY, MaxX: q.MaxX, MaxY: q.MaxY}
}

// appendWithin puts the points in the box behind others, in the order in which they stand in the tree.
func appendWithin(points []api.Point, n tree.Node, box plane.Box) []api.Point {
	for _, p := range n.Points {
		if box.Meets(plane.BoxOf(p)) {
			points = append(points, p)
		}
	}
	for _, child := range n.Children {
		if box.Meets(child.Box) {
			points = appendWithin(points, child, box)
		}
	}
	return points
}
