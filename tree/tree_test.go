package tree

import (
	"slices"
	"testing"

	"ward/api"
	"ward/digest"
	"ward/plane"
)

// inLine: n points in order.
func inLine(n int) []api.Point {
	points := make([]api.Point, n)
	for i := range points {
		points[i] = api.Point{ID: i + 1, X: i, Y: -i % 7}
	}
	return points
}

func TestFours(t *testing.T) {
	for _, c := range []struct{ n, groups, last int }{
		{0, 0, 0}, {1, 1, 1}, {3, 1, 3}, {4, 1, 4}, {5, 2, 1}, {8, 2, 4}, {16, 4, 4}, {17, 5, 1}, {150, 38, 2},
	} {
		all := inLine(c.n)
		groups := fours(all)
		if len(groups) != c.groups {
			t.Errorf("P3: %d points make %d groups, want %d", c.n, len(groups), c.groups)
			continue
		}
		if !slices.Equal(slices.Concat(groups...), all) {
			t.Errorf("P3: the groups of %d points are not the points in order", c.n)
		}
		for i, group := range groups {
			want := 4
			if i == len(groups)-1 {
				want = c.last
			}
			if len(group) != want {
				t.Errorf("P3: group %d of %d points has %d", i, c.n, len(group))
			}
		}
	}
}

func TestNoGroupGrowsIntoTheNext(t *testing.T) {
	// the list itself has room behind it, and not even the last group may grow into that
	for _, n := range []int{1, 4, 5, 16, 17, 150} {
		room := inLine(n + 3)
		all := room[:n]
		for i, group := range fours(all) {
			if cap(group) != len(group) {
				t.Errorf("'Ways': group %d of %d points has room for %d more", i, n, cap(group)-len(group))
			}
			_ = append(group, api.Point{ID: -9})
		}
		if !slices.Equal(room, inLine(n+3)) {
			t.Errorf("'Ways': a group of %d points grew into what is behind it", n)
		}
	}
}

func TestLeafOfNone(t *testing.T) {
	for _, points := range [][]api.Point{nil, {}} {
		root := Build(points)
		if root.Digest != digest.Of("\x01\x00") || root.Count != 0 || len(root.Points) != 0 || len(root.Children) != 0 {
			t.Errorf("P3: the tree of none is %v", root)
		}
	}
}

func TestLeafText(t *testing.T) {
	got := leafText([]api.Point{{ID: 1, X: 258, Y: -1}, {ID: api.MaxID, X: -api.MaxCoord, Y: api.MaxCoord}})
	want := "\x01\x02" +
		"\x00\x00\x00\x01" + "\x00\x00\x01\x02" + "\xff\xff\xff\xff" +
		"\x00\x0f\x42\x40" + "\xff\xf0\xbd\xc0" + "\x00\x0f\x42\x40"
	if got != want {
		t.Errorf("P3: the leaf's text is %q, want %q", got, want)
	}
}

func TestNodeText(t *testing.T) {
	child := Node{Box: plane.Box{MinX: -1, MinY: 2, MaxX: 3, MaxY: 4}, Count: 5}
	for i := range child.Digest {
		child.Digest[i] = byte(200 + i)
	}
	want := "\x02\x01" +
		"\xff\xff\xff\xff" + "\x00\x00\x00\x02" + "\x00\x00\x00\x03" + "\x00\x00\x00\x04" + "\x00\x00\x00\x05" +
		string(child.Digest[:])
	if got := nodeText([]Node{child}); got != want {
		t.Errorf("P3: the node's text is %q, want %q", got, want)
	}
}

func TestTheExample(t *testing.T) {
	points := []api.Point{{ID: 1}, {ID: 3, X: 5, Y: -5}, {ID: 2, X: 5, Y: 5}, {ID: 4, X: 9}, {ID: 5, X: 20, Y: 20}}
	root := Build(points)
	if len(root.Children) != 2 || root.Count != 5 || root.Box != (plane.Box{MinX: 0, MinY: -5, MaxX: 20, MaxY: 20}) {
		t.Fatalf("P3: the root is %v", root)
	}
	first, second := root.Children[0], root.Children[1]
	if first.Box != (plane.Box{MinX: 0, MinY: -5, MaxX: 9, MaxY: 5}) || first.Count != 4 || !slices.Equal(first.Points, points[:4]) {
		t.Errorf("P3: the first leaf is %v", first)
	}
	if second.Box != (plane.Box{MinX: 20, MinY: 20, MaxX: 20, MaxY: 20}) || second.Count != 1 || !slices.Equal(second.Points, points[4:]) {
		t.Errorf("P3: the second leaf is %v", second)
	}
}

// depth: how many stand within one another, the leaf among them.
func depth(n Node) int {
	deepest := 0
	for _, child := range n.Children {
		deepest = max(deepest, depth(child))
	}
	return deepest + 1
}

// below: all points, from left to right.
func below(n Node) []api.Point {
	all := slices.Clone(n.Points)
	for _, child := range n.Children {
		all = append(all, below(child)...)
	}
	return all
}

func TestDepths(t *testing.T) {
	for _, c := range []struct{ n, depth, children int }{
		{0, 1, 0}, {1, 1, 0}, {4, 1, 0}, {5, 2, 2}, {16, 2, 4}, {17, 3, 2}, {64, 3, 4}, {65, 4, 2}, {150, 4, 3},
	} {
		points := inLine(c.n)
		root := Build(points)
		if depth(root) != c.depth || len(root.Children) != c.children || root.Count != c.n {
			t.Errorf("P3: the tree of %d points: depth %d, %d children, %d points", c.n, depth(root), len(root.Children), root.Count)
		}
		if !slices.Equal(below(root), points) || !slices.Equal(points, inLine(c.n)) {
			t.Errorf("P3: the tree of %d points has others, or changed them", c.n)
		}
	}
}

func TestProofOfALeaf(t *testing.T) {
	never := func(b plane.Box) bool {
		t.Errorf("P4: a root was asked for as a child: %v", b)
		return false
	}
	for n := range 5 {
		if got, want := Proof(Build(inLine(n)), never), leafText(inLine(n)); got != want {
			t.Errorf("P4: the proof of %d points is %q, want %q", n, got, want)
		}
	}
}

func TestProofOfANode(t *testing.T) {
	points := inLine(17)
	root := Build(points)
	left, right := root.Children[0], root.Children[1]
	head := func(n Node) string { return string(appendChild(nil, n)) }
	leaves := func(shownLeaf int) string {
		text := "\x02\x04"
		for i, leaf := range left.Children {
			text += head(leaf)
			if i == shownLeaf {
				text += "\x01" + leafText(points[4*i:4*i+4])
			} else {
				text += "\x00"
			}
		}
		return text
	}
	for _, c := range []struct {
		what string
		show func(plane.Box) bool
		want string
	}{
		{"none", func(plane.Box) bool { return false }, "\x02\x02" + head(left) + "\x00" + head(right) + "\x00"},
		{"the left without its leaves", func(b plane.Box) bool { return b == left.Box }, "\x02\x02" + head(left) + "\x01" + leaves(-1) + head(right) + "\x00"},
		{"the third leaf", func(b plane.Box) bool { return b == left.Box || b == left.Children[2].Box }, "\x02\x02" + head(left) + "\x01" + leaves(2) + head(right) + "\x00"},
		{"what is below the right", func(b plane.Box) bool { return b == right.Box }, "\x02\x02" + head(left) + "\x00" + head(right) + "\x01" + "\x02\x01" + head(right.Children[0]) + "\x01" + leafText(points[16:])},
	} {
		if got := Proof(root, c.show); got != c.want {
			t.Errorf("P4: the proof that shows %s is %q, want %q", c.what, got, c.want)
		}
	}
}
