package query

import (
	"cmp"
	"container/heap"

	"ward/api"
	"ward/plane"
	"ward/tree"
)

// entry: a node whose points are still to come, or, without a node, a point.
type entry struct {
	distance int64
	node     *tree.Node
	point    api.Point
}

// entries: a heap, the nearest on top.
type entries []entry

// compare: a node's entry has no point, so its id is 0. That puts it ahead of the points of its distance, as it must be: it may have one of the same distance and a lower id.
func compare(a, b entry) int {
	return cmp.Or(cmp.Compare(a.distance, b.distance), cmp.Compare(a.point.ID, b.point.ID))
}

func (e entries) Len() int           { return len(e) }
func (e entries) Less(i, k int) bool { return compare(e[i], e[k]) < 0 }
func (e entries) Swap(i, k int)      { e[i], e[k] = e[k], e[i] }

// Push is for package heap alone.
func (e *entries) Push(last any) { *e = append(*e, last.(entry)) }

// Pop is for package heap alone.
func (e *entries) Pop() any {
	end := len(*e) - 1
	last := (*e)[end]
	*e = (*e)[:end]
	return last
}

// nearest: what comes off the heap is no farther than all that is still to come, so a point that comes off it is the next of the answer.
func nearest(root tree.Node, q api.Query) []api.Point {
	waiting := &entries{{node: &root}}
	var answer []api.Point
	for waiting.Len() > 0 && len(answer) < q.K {
		next := heap.Pop(waiting).(entry)
		if next.node == nil {
			answer = append(answer, next.point)
			continue
		}
		open(waiting, next.node, q)
	}
	return answer
}

// open puts what stands right below a node onto the heap.
func open(waiting *entries, n *tree.Node, q api.Query) {
	for _, p := range n.Points {
		heap.Push(waiting, entry{distance: plane.BoxOf(p).Distance(q.X, q.Y), point: p})
	}
	for i := range n.Children {
		child := &n.Children[i]
		heap.Push(waiting, entry{distance: child.Box.Distance(q.X, q.Y), node: child})
	}
}
