package tree

import (
	"slices"
	"strings"
	"testing"

	"ward/api"
	"ward/plane"
)

func all(plane.Box) bool  { return true }
func none(plane.Box) bool { return false }

func TestReadGivesBackWhatBuildMade(t *testing.T) {
	for n := range api.MaxPoints + 1 {
		built := Build(inLine(n))
		root, ok := Read(Proof(built, all))
		if !ok || root.Digest != built.Digest || root.Count != built.Count || !slices.Equal(below(root), inLine(n)) || depth(root) != depth(built) {
			t.Fatalf("P5: of %d points is read: %v, %v", n, root, ok)
		}
		if n > 0 && root.Box != built.Box {
			t.Errorf("P5: of %d points is read the box %v", n, root.Box)
		}
		if !BoxesHold(root) || !DigestsHold(root) || Proof(root, all) != Proof(built, all) {
			t.Errorf("P5: what is read of %d points is another tree", n)
		}
	}
}

func TestReadKeepsWhatIsSaid(t *testing.T) {
	built := Build(inLine(17))
	root, ok := Read(Proof(built, none))
	if !ok || root.Digest != built.Digest || root.Count != 17 || len(root.Children) != 2 {
		t.Fatalf("P5: is read: %v, %v", root, ok)
	}
	for i, child := range root.Children {
		want := built.Children[i]
		if child.IsShown() || child.Box != want.Box || child.Count != want.Count || child.Digest != want.Digest {
			t.Errorf("P5: of child %d is read: %v", i, child)
		}
	}
	// what is said of a child that is shown is kept too, true or not
	text := "\x02\x01" + string(appendChild(nil, Node{Box: plane.Box{MinX: -9, MinY: -8, MaxX: 7, MaxY: 6}, Count: 150, Digest: [32]byte{3, 31: 4}})) + "\x01" + leafText(inLine(2))
	root, ok = Read(text)
	if !ok || len(root.Children) != 1 {
		t.Fatalf("P5: is read: %v, %v", root, ok)
	}
	child := root.Children[0]
	if !child.IsShown() || child.Box != (plane.Box{MinX: -9, MinY: -8, MaxX: 7, MaxY: 6}) || child.Count != 150 || child.Digest != ([32]byte{3, 31: 4}) || !slices.Equal(child.Points, inLine(2)) {
		t.Errorf("P5: of the child is read: %v", child)
	}
	if root.Box != child.Box || root.Count != 150 {
		t.Errorf("P5: the root's box is %v, its number %d", root.Box, root.Count)
	}
}

func TestReadRefuses(t *testing.T) {
	good := Proof(Build(inLine(9)), all)
	for what, text := range map[string]string{
		"nothing":             "",
		"half a head":         "\x01",
		"no kind":             "\x03" + good[1:],
		"a leaf of five":      leafText(inLine(5)),
		"cut short":           good[:len(good)-1],
		"a byte behind it":    good + "\x01",
		"an id twice":         leafText([]api.Point{{ID: 1}, {ID: 1}}),
		"no id":               leafText([]api.Point{{ID: 0}}),
		"a node of none":      "\x02\x00",
		"a long text of none": strings.Repeat("\x02", 1<<20),
	} {
		root, ok := Read(text)
		if ok || root.IsShown() || root.Count != 0 {
			t.Errorf("P5: %s: is read: %v, %v", what, root, ok)
		}
	}
}

func TestWhatHolds(t *testing.T) {
	points := inLine(70)
	for _, c := range []struct {
		what           string
		change         func(root *Node)
		boxes, digests bool
	}{
		{"nothing", func(*Node) {}, true, true},
		{"a box", func(root *Node) { root.Children[1].Box.MaxX++ }, false, true},
		{"a number", func(root *Node) { root.Children[0].Count-- }, false, true},
		{"a digest", func(root *Node) { root.Children[0].Digest[31]++ }, true, false},
		{"a leaf's box", func(root *Node) { root.Children[0].Children[3].Children[2].Box.MinY-- }, false, false},
		{"a leaf's number", func(root *Node) { root.Children[0].Children[0].Children[3].Count++ }, false, false},
		{"a leaf's digest", func(root *Node) { root.Children[0].Children[2].Children[0].Digest[0]-- }, true, false},
		{"a point's id", func(root *Node) { root.Children[0].Children[2].Children[0].Points[1].ID = 999 }, true, false},
		{"a point", func(root *Node) { root.Children[0].Children[2].Children[0].Points[1].X = -50 }, false, false},
		{"what is hidden", func(root *Node) { root.Children[0].Children[2].Children, root.Children[1].Children = nil, nil }, true, true},
		{"what is said of what is hidden", func(root *Node) {
			root.Children[1].Children = nil
			root.Children[1].Count, root.Children[1].Digest, root.Children[1].Box.MinX = 99, [32]byte{}, -99
		}, true, true},
	} {
		root, _ := Read(Proof(Build(points), all))
		c.change(&root)
		if BoxesHold(root) != c.boxes || DigestsHold(root) != c.digests {
			t.Errorf("P5: with %s changed: boxes hold: %v, digests hold: %v", c.what, BoxesHold(root), DigestsHold(root))
		}
	}
}

func TestEveryChildIsAsked(t *testing.T) {
	root := Build(inLine(70))
	// 18 leaves, 5 nodes above them, 2 above those
	asked := 0
	if !Every(root, func(Node) bool { asked++; return true }) || asked != 25 {
		t.Errorf("P5: %d children are asked", asked)
	}
	for fails := 1; fails <= 25; fails++ {
		asked := 0
		if Every(root, func(Node) bool { asked++; return asked != fails }) {
			t.Errorf("P5: child %d does not hold, and every one does", fails)
		}
	}
	if !Every(Build(nil), func(Node) bool { return false }) {
		t.Errorf("P5: a root without children has one")
	}
}

func TestNumbersBelowNull(t *testing.T) {
	text := "\x00\x00\x00\x07" + "\xff\xff\xff\xff" + "\xff\xf0\xbd\xc0" + "\x80\x00\x00\x00" + "\x7f\xff\xff\xff"
	for place, want := range []int{7, -1, -api.MaxCoord, -1 << 31, 1<<31 - 1} {
		if got := numberOf(text, place); got != want {
			t.Errorf("P5: number %d is %d, want %d", place, got, want)
		}
	}
}
