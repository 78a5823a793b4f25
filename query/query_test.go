package query

import (
	"container/heap"
	"math"
	"slices"
	"testing"

	"ward/api"
	"ward/plane"
	"ward/tree"
)

const most = api.MaxCoord

func window(minX, minY, maxX, maxY int) api.Query {
	return api.Query{Kind: api.Window, MinX: minX, MinY: minY, MaxX: maxX, MaxY: maxY}
}

func near(x, y, k int) api.Query {
	return api.Query{Kind: api.Near, X: x, Y: y, K: k}
}

func TestQueriesThatMayBe(t *testing.T) {
	odd := math.MaxInt
	for _, q := range []api.Query{
		{},
		window(1, 2, 1, 2),
		window(-most, -most, most, most),
		{Kind: api.Window, X: odd, Y: -odd, K: odd},
		{Kind: api.Window, K: api.MaxK + 1, X: most + 1},
		near(0, 0, 1),
		near(0, 0, 2),
		near(0, 0, api.MaxK-1),
		near(most, -most, api.MaxK),
		near(-most, most, api.MaxK),
		{Kind: api.Near, K: 1, MinX: odd, MinY: odd, MaxX: -odd, MaxY: -odd},
		{Kind: api.Near, K: 1, MinX: 1},
	} {
		if !MayBe(q) {
			t.Errorf("P4: %+v may be", q)
		}
	}
	for _, q := range []api.Query{
		{Kind: -1, K: 1},
		{Kind: 2, K: 1},
		{Kind: 1 << 32, K: 1},
		{Kind: 1<<32 + 1, K: 1},
		{Kind: math.MinInt, K: 1},
		{Kind: odd, K: 1},
		near(0, 0, 0),
		near(0, 0, -1),
		near(0, 0, api.MaxK+1),
		near(0, 0, math.MinInt),
		near(0, 0, odd),
		near(0, 0, 1<<32+1),
		near(most+1, 0, 1),
		near(-most-1, 0, 1),
		near(0, most+1, 1),
		near(0, -most-1, 1),
		near(math.MinInt, odd, 1),
		window(1, 0, 0, 0),
		window(0, 1, 0, 0),
		window(-most-1, 0, 0, 0),
		window(0, -most-1, 0, 0),
		window(0, 0, most+1, 0),
		window(0, 0, 0, most+1),
		window(math.MinInt, math.MinInt, odd, odd),
	} {
		if MayBe(q) {
			t.Errorf("P4: %+v may not be", q)
		}
	}
}

func TestWhatMustBeShown(t *testing.T) {
	box := plane.Box{MinX: 0, MinY: -5, MaxX: 9, MaxY: 5}
	last := []api.Point{{ID: 5, X: 20, Y: 20}}
	for _, c := range []struct {
		q      api.Query
		answer []api.Point
		want   bool
	}{
		{window(0, 0, 6, 6), nil, true},
		{window(9, 5, 20, 20), nil, true},
		{window(-4, -9, 0, -5), nil, true},
		{window(10, 5, 20, 20), nil, false},
		{window(9, 6, 20, 20), nil, false},
		{window(-4, -9, -1, -5), nil, false},
		{window(-4, -9, 0, -6), nil, false},
		{window(3, 3, 4, 4), nil, true},
		{window(-9, -9, 19, 19), nil, true},
		// both are at 173: the child's distance is just that of the last point
		{near(22, 7, 1), last, true},
		{near(21, 7, 1), last, true},
		{near(23, 7, 1), last, false},
		// fewer than K
		{near(20, 20, 2), last, true},
		{near(most, most, 1), nil, true},
		{near(20, 20, 1), last, false},
		// of several the last
		{near(20, 20, 2), []api.Point{last[0], {ID: 6, X: 20, Y: 1}}, true},
		{near(20, 20, 2), []api.Point{last[0], {ID: 6, X: 20, Y: 2}}, false},
	} {
		if MustShow(c.q, c.answer, box) != c.want {
			t.Errorf("P4: MustShow(%+v, %v) = %v", c.q, c.answer, !c.want)
		}
	}
}

func TestTheHeap(t *testing.T) {
	a, b := &tree.Node{}, &tree.Node{}
	rising := []entry{
		{distance: 0, node: a},
		{distance: 0, point: api.Point{ID: 7}},
		{distance: 1, point: api.Point{ID: 9}},
		{distance: 4, node: b},
		{distance: 4, point: api.Point{ID: 1}},
		{distance: 4, point: api.Point{ID: 2, X: -9}},
		{distance: 4, point: api.Point{ID: 10, X: -99}},
		{distance: 1 << 33, point: api.Point{ID: 3}},
		{distance: 1<<33 + 1, point: api.Point{ID: 2}},
	}
	for turn := range rising {
		waiting := &entries{}
		for i := range rising {
			heap.Push(waiting, rising[(i*5+turn)%len(rising)])
		}
		for i, want := range rising {
			if got := heap.Pop(waiting).(entry); got != want {
				t.Fatalf("'Ways': entry %d off the heap is %v, want %v", i, got, want)
			}
		}
		if waiting.Len() != 0 {
			t.Fatalf("'Ways': the heap has %d left", waiting.Len())
		}
	}
}

func TestNearestOpensNoMoreThanItMust(t *testing.T) {
	// the far leaf lies about its points: were it opened, they would be in the answer
	root := tree.Build([]api.Point{{ID: 1}, {ID: 2, X: 1}, {ID: 3, X: 2}, {ID: 4, X: 3}, {ID: 5, X: 50}})
	root.Children[1].Points = []api.Point{{ID: 6}}
	got := Answer(root, near(0, 0, 3))
	if !slices.Equal(got, []api.Point{{ID: 1}, {ID: 2, X: 1}, {ID: 3, X: 2}}) {
		t.Errorf("'Ways': a node that is too far was opened: %v", got)
	}
}

func TestAnswersShareNothingWithTheTree(t *testing.T) {
	points := []api.Point{{ID: 1}, {ID: 2}, {ID: 3, X: 1}}
	root := tree.Build(points)
	for _, q := range []api.Query{window(0, 0, 1, 1), window(0, 0, 0, 0), near(0, 0, 2), near(0, 0, 3)} {
		l := Answer(root, q)
		for i := range l[:cap(l)] {
			l[:cap(l)][i] = api.Point{ID: -9}
		}
	}
	if !slices.Equal(points, []api.Point{{ID: 1}, {ID: 2}, {ID: 3, X: 1}}) {
		t.Errorf("P2: an answer shares memory with the points: %v", points)
	}
}

func TestWhatIsLackedAndWasted(t *testing.T) {
	points := []api.Point{{ID: 1}, {ID: 2, X: 1}, {ID: 3, X: 2}, {ID: 4, X: 3}, {ID: 5, X: 50}, {ID: 6, X: 51}, {ID: 7, X: 52}, {ID: 8, X: 53}, {ID: 9, X: 100}}
	for _, c := range []struct {
		q       api.Query
		hidden  []int
		lacks   bool
		wastes  bool
		answers int
	}{
		{window(0, 0, 9, 9), []int{1, 2}, false, false, 4},
		{window(0, 0, 9, 9), []int{2}, false, true, 4},
		{window(0, 0, 9, 9), nil, false, true, 4},
		{window(0, 0, 9, 9), []int{0, 1, 2}, true, false, 0},
		{window(0, 0, 9, 9), []int{0}, true, true, 0},
		{window(0, 5, 9, 9), []int{0, 1, 2}, false, false, 0},
		{near(0, 0, 4), []int{1, 2}, false, false, 4},
		{near(0, 0, 5), []int{1, 2}, true, false, 4},
		{near(0, 0, 5), []int{2}, false, false, 5},
		{near(0, 0, 5), []int{1}, true, false, 5},
		{near(0, 0, 9), nil, false, false, 9},
		{near(0, 0, 8), nil, false, true, 8},
		{near(100, 0, 1), []int{0, 1}, false, false, 1},
		{near(100, 0, 1), []int{0, 2}, true, false, 1},
	} {
		root := tree.Build(points)
		for _, i := range c.hidden {
			root.Children[i].Points = nil
		}
		answer := Answer(root, c.q)
		if len(answer) != c.answers || LacksNone(root, c.q, answer) == c.lacks || WastesNone(root, c.q, answer) == c.wastes {
			t.Errorf("P5: %+v, with %v hidden: %v, lacks none: %v, wastes none: %v", c.q, c.hidden, answer, LacksNone(root, c.q, answer), WastesNone(root, c.q, answer))
		}
	}
}

func TestWindowsAreAnsweredInOrder(t *testing.T) {
	root := tree.Node{Children: []tree.Node{
		{Points: []api.Point{{ID: 3, X: 9}, {ID: 2, X: 4, Y: 1}}, Box: plane.Box{MinX: 4, MaxX: 9, MaxY: 1}},
		{Points: []api.Point{{ID: 9, X: 4}, {ID: 1, X: 4, Y: 1}, {ID: 4, X: -1}}, Box: plane.Box{MinX: -1, MaxX: 4, MaxY: 1}},
	}}
	want := []api.Point{{ID: 4, X: -1}, {ID: 9, X: 4}, {ID: 1, X: 4, Y: 1}, {ID: 2, X: 4, Y: 1}, {ID: 3, X: 9}}
	if got := Answer(root, window(-9, -9, 9, 9)); !slices.Equal(got, want) {
		t.Errorf("P5: the points of a window are not in order: %v", got)
	}
}
