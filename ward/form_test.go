package ward_test

import (
	"fmt"
	"math"
	"strings"
	"testing"

	"ward/api"
	"ward/ward"
)

// exampleTree: that of the document's five points; both leaves are shown.
func exampleTree() branch {
	return nodeWith(leafWith(fiveInOrder[:4]...), leafWith(fiveInOrder[4:]...))
}

// line: that many points, of ids from the first on.
func line(first, n int) []api.Point {
	var points []api.Point
	for i := range n {
		points = append(points, at(first+i, i, -i))
	}
	return points
}

// inAndBelow: the leaf as the root, and below a node, ahead of another leaf and behind it.
func inAndBelow(leaf branch) []branch {
	other := leafWith(at(777, 50, 50))
	return []branch{leaf, nodeWith(leaf), nodeWith(leaf, other), nodeWith(other, leaf), nodeWith(nodeWith(other, nodeWith(leaf)))}
}

func TestPointsOfALeaf(t *testing.T) {
	taken(t, "a root of none", leafWith(), everywhere)
	taken(t, "a root of none", leafWith(), near(1, 2, 3))
	// of a leaf of none no number that may be is true: form goes ahead of that
	none := leafWith()
	none.count = 1
	for _, root := range inAndBelow(none)[1:] {
		refused(t, "a leaf of none below a node", root, everywhere, api.ErrForm)
		refused(t, "a leaf of none below a node", root, near(0, 0, 1), api.ErrForm)
	}
	for n := 1; n <= 4; n++ {
		for _, root := range inAndBelow(leafWith(line(1, n)...)) {
			taken(t, fmt.Sprint("points: ", n), root, everywhere)
			taken(t, fmt.Sprint("points: ", n), root, near(2, 2, api.MaxK))
		}
	}
	for _, n := range []int{5, 6, 128, 150, 255} {
		for _, root := range inAndBelow(leafWith(line(1, n)...)) {
			refused(t, fmt.Sprint("points: ", n), root, everywhere, api.ErrForm)
		}
	}
}

func TestIDsOfAProof(t *testing.T) {
	for _, id := range []int{1, 2, 256, 65536, api.MaxID - 1, api.MaxID} {
		for _, root := range inAndBelow(leafWith(at(id, 3, 4))) {
			taken(t, fmt.Sprint("id ", id), root, everywhere)
		}
	}
	for _, id := range []int{0, -1, api.MaxID + 1, 1 << 24, math.MaxInt32, math.MinInt32, -api.MaxID} {
		for _, root := range inAndBelow(leafWith(at(id, 3, 4))) {
			refused(t, fmt.Sprint("id ", id), root, everywhere, api.ErrForm)
		}
		for place := range 4 {
			points := line(1, 4)
			points[place].ID = id
			refused(t, fmt.Sprint("id ", id, " at ", place), leafWith(points...), everywhere, api.ErrForm)
		}
	}
}

func TestAnIDTwice(t *testing.T) {
	same := leafWith(at(7, 3, 4))
	for what, root := range map[string]branch{
		"in one leaf":                   leafWith(at(7, 1, 1), at(7, 2, 2)),
		"in one leaf, far apart":        leafWith(at(7, 1, 1), at(8, 2, 2), at(9, 2, 2), at(7, 1, 2)),
		"one point in one leaf":         leafWith(at(7, 1, 1), at(7, 1, 1)),
		"in one leaf below a node":      nodeWith(leafWith(at(7, 1, 1), at(7, 2, 2))),
		"in two leaves":                 nodeWith(leafWith(at(7, 1, 1)), leafWith(at(7, 2, 2))),
		"in two leaves, far apart":      nodeWith(leafWith(at(7, 1, 1)), leafWith(at(1, 0, 0)), leafWith(at(2, 0, 0)), leafWith(at(7, 2, 2))),
		"in one leaf twice":             nodeWith(same, same),
		"in leaves of two nodes":        nodeWith(nodeWith(leafWith(at(7, 1, 1))), nodeWith(leafWith(at(6, 1, 1)), leafWith(at(7, 1, 1)))),
		"in a leaf and one that is low": nodeWith(leafWith(at(7, 1, 1)), nodeWith(nodeWith(nodeWith(leafWith(at(7, 1, 1)))))),
	} {
		refused(t, "an id twice "+what, root, everywhere, api.ErrForm)
		refused(t, "an id twice "+what, root, near(0, 0, 1), api.ErrForm)
	}
	// of what is hidden nobody knows the ids
	taken(t, "an id that is hidden", nodeWith(same, hide(leafWith(at(7, 30, 30)))), window(0, 0, 9, 9))
	// each proof has its own
	for range 2 {
		taken(t, "the ids of another proof", same, everywhere)
	}
}

func TestCoordinatesOfAProof(t *testing.T) {
	for _, n := range []int{-most, -most + 1, -65536, -1, 0, 1, most - 1, most} {
		for _, p := range []api.Point{at(1, n, 0), at(1, 0, n), at(1, n, n), at(1, n, -n)} {
			for _, root := range inAndBelow(leafWith(p)) {
				taken(t, fmt.Sprint("a coordinate of ", n), root, everywhere)
				taken(t, fmt.Sprint("a coordinate of ", n), root, near(most, -most, 2))
			}
		}
	}
	for _, n := range []int{-most - 1, most + 1, math.MinInt32, math.MaxInt32, 1 << 24, -1 << 24} {
		for _, p := range []api.Point{at(1, n, 0), at(1, 0, n)} {
			for _, root := range inAndBelow(leafWith(p)) {
				refused(t, fmt.Sprint("a coordinate of ", n), root, everywhere, api.ErrForm)
			}
			// the box says what may be
			leaf := leafWith(p)
			leaf.box = [4]int{0, 0, 0, 0}
			refused(t, fmt.Sprint("a coordinate of ", n, ", below a box"), nodeWith(leaf), everywhere, api.ErrForm)
		}
	}
}

func TestChildrenOfANode(t *testing.T) {
	many := func(n int) []branch {
		var children []branch
		for i := range n {
			children = append(children, leafWith(at(i+1, i, i)))
		}
		return children
	}
	for n := 1; n <= 4; n++ {
		taken(t, fmt.Sprint("children: ", n), nodeWith(many(n)...), everywhere)
		taken(t, fmt.Sprint("children: ", n), nodeWith(nodeWith(many(n)...), leafWith(at(99, 0, 0))), everywhere)
	}
	for _, n := range []int{5, 6, 128, 150} {
		refused(t, fmt.Sprint("children: ", n), nodeWith(many(n)...), everywhere, api.ErrForm)
		refused(t, fmt.Sprint("children: ", n), nodeWith(nodeWith(many(n)...)), everywhere, api.ErrForm)
	}
	misformed(t, "a node of none", "\x02\x00")
	none := leafWith(at(1, 0, 0))
	none.digest = digestOf("\x02\x00")
	misformed(t, "a node of none below a node", "\x02\x01"+none.said()+"\x01\x02\x00")
}

func TestFirstBytes(t *testing.T) {
	leaf := leafWith(at(1, 3, 4))
	node := nodeWith(leaf)
	for mark := range 256 {
		if mark != 1 {
			misformed(t, fmt.Sprint("first byte ", mark), string([]byte{byte(mark), 0}))
		}
		if mark != 1 && mark != 2 {
			what := fmt.Sprint("first byte ", mark)
			misformed(t, what, string([]byte{byte(mark)})+leaf.proof()[1:])
			misformed(t, what, string([]byte{byte(mark)})+node.proof()[1:])
			misformed(t, what+" below a node", "\x02\x01"+leaf.said()+"\x01"+string([]byte{byte(mark)})+leaf.proof()[1:])
			misformed(t, what+" below a node", "\x02\x01"+node.said()+"\x01"+string([]byte{byte(mark)})+node.proof()[1:])
		}
	}
}

func TestBytesBehindADigest(t *testing.T) {
	leaf, other := leafWith(at(1, 3, 4)), leafWith(at(2, 40, 40))
	for flag := 2; flag < 256; flag++ {
		what := fmt.Sprint("behind a digest the byte ", flag)
		behind := string([]byte{byte(flag)})
		misformed(t, what, "\x02\x01"+leaf.said()+behind)
		misformed(t, what, "\x02\x01"+leaf.said()+behind+leaf.proof())
		misformed(t, what, "\x02\x02"+leaf.said()+"\x01"+leaf.proof()+other.said()+behind)
		misformed(t, what, "\x02\x02"+leaf.said()+behind+leaf.proof()+other.said()+"\x00")
	}
	taken(t, "behind a digest 1, then 0", nodeWith(leaf, hide(other)), window(0, 0, 9, 9))
	taken(t, "behind a digest 0, then 1", nodeWith(hide(other), leaf), window(0, 0, 9, 9))
	misformed(t, "behind a digest 1 and nothing", "\x02\x01"+leaf.said()+"\x01")
	misformed(t, "behind a digest 0 and a leaf", "\x02\x01"+leaf.said()+"\x00"+leaf.proof())
}

// saying: a root with that child, shown and not, ahead of a leaf and behind it, and lower.
func saying(box [4]int, count int) []branch {
	child, other := leafWith(at(1, 0, 0)), leafWith(at(2, 0, 0))
	child.box, child.count = box, count
	return []branch{
		nodeWith(child), nodeWith(hide(child)), nodeWith(child, other), nodeWith(other, child), nodeWith(other, hide(child)),
		nodeWith(other, nodeWith(hide(child))),
	}
}

func TestBoxesOfAProof(t *testing.T) {
	for _, box := range [][4]int{
		{1, 0, 0, 0}, {0, 1, 0, 0}, {most, 0, most - 1, 0}, {0, -most + 1, 0, -most}, {most, most, -most, -most},
		{-most - 1, 0, 0, 0}, {0, -most - 1, 0, 0}, {0, 0, most + 1, 0}, {0, 0, 0, most + 1},
		{most + 1, 0, most + 1, 0}, {0, most + 1, 0, most + 1}, {-most - 1, 0, -most - 1, 0}, {0, -most - 1, 0, -most - 1},
		{math.MinInt32, 0, 0, 0}, {0, 0, 0, math.MaxInt32}, {math.MaxInt32, 0, math.MinInt32, 0},
	} {
		for _, root := range saying(box, 1) {
			refused(t, fmt.Sprint("the box ", box), root, everywhere, api.ErrForm)
			refused(t, fmt.Sprint("the box ", box), root, near(0, 0, 2), api.ErrForm)
		}
	}
	for _, box := range [][4]int{
		{0, 0, 0, 0}, {0, 0, 1, 0}, {0, 0, 0, 1}, {-1, -1, -1, -1}, {most, most, most, most}, {-most, -most, -most, -most}, {-most, -most, most, most},
	} {
		for _, root := range saying(box, 1) {
			formed(t, fmt.Sprint("the box ", box), root.proof())
		}
	}
}

func TestNumbersOfPoints(t *testing.T) {
	for _, n := range []int{0, -1, api.MaxPoints + 1, 1 << 8, 1 << 16, 1 << 24, math.MaxInt32, math.MinInt32} {
		for _, root := range saying([4]int{}, n) {
			refused(t, fmt.Sprint("the number ", n), root, everywhere, api.ErrForm)
		}
	}
	for _, n := range []int{1, 2, 4, 5, api.MaxPoints - 1, api.MaxPoints} {
		for _, root := range saying([4]int{}, n) {
			formed(t, fmt.Sprint("the number ", n), root.proof())
		}
	}
	// the root's number stands nowhere in the text, so that the commitment alone is held against it
	full := leafWith(at(1, 9, 9))
	full.count = api.MaxPoints
	full.hidden = true
	taken(t, "more than MaxPoints below the root", nodeWith(full, full, full, full), window(0, 0, 1, 1))
}

func TestDepthOfAProof(t *testing.T) {
	leaf := leafWith(at(5, 20, 20))
	chain := leaf
	for deep := 1; deep <= api.MaxDeep+3; deep++ {
		what := fmt.Sprint("within one another: ", deep)
		wide := chain
		if deep > 1 {
			wide = nodeWith(leafWith(at(1, 0, 0)), chain.children[0], leafWith(at(2, 0, 0)))
		}
		if deep <= api.MaxDeep {
			taken(t, what, chain, everywhere)
			taken(t, what, chain, near(0, 0, 1))
			taken(t, what, wide, everywhere)
		} else {
			refused(t, what, chain, everywhere, api.ErrForm)
			refused(t, what, chain, near(0, 0, 1), api.ErrForm)
			refused(t, what, wide, everywhere, api.ErrForm)
		}
		chain = nodeWith(chain)
	}
	// all of them nodes, the last with hidden children: what is hidden is not in the text
	chain = nodeWith(hide(leaf), hide(leafWith(at(1, 0, 0))))
	for deep := 1; deep <= api.MaxDeep; deep++ {
		taken(t, fmt.Sprint("nodes within one another: ", deep), chain, window(9, 9, 10, 10))
		chain = nodeWith(chain)
	}
	refused(t, "nodes within one another: 7", chain, window(9, 9, 10, 10), api.ErrForm)
}

func TestCutShort(t *testing.T) {
	for _, root := range []branch{
		leafWith(), leafWith(line(1, 4)...), exampleTree(),
		nodeWith(hide(leafWith(at(1, 0, 0))), leafWith(line(2, 3)...)),
		nodeWith(nodeWith(leafWith(at(1, 0, 0)), hide(leafWith(at(2, 0, 0)))), nodeWith(leafWith(at(3, 0, 0)))),
	} {
		proof := root.proof()
		for end := range len(proof) {
			misformed(t, fmt.Sprint("cut short at ", end), proof[:end])
		}
		for _, behind := range []string{"\x00", "\x01", "\x02", "\xff", "\x01\x00", proof, strings.Repeat("\x00", 1000)} {
			misformed(t, "with bytes behind it", proof+behind)
		}
		formed(t, "whole", proof)
	}
	misformed(t, "nothing", "")
}

func TestTextsThatEnd(t *testing.T) {
	leaf := leafWith(at(1, 0, 0))
	deeper := "\x02\x01" + leaf.said() + "\x01"
	for what, text := range map[string]string{
		"a long text of no kind":      strings.Repeat("x", 1<<22),
		"a long text of bytes 0":      strings.Repeat("\x00", 1<<22),
		"a long text of leaves":       strings.Repeat("\x01\x00", 1<<20),
		"a text of many nodes":        strings.Repeat(deeper, 50000),
		"a text of many nodes, ended": strings.Repeat(deeper, 50000) + leaf.proof(),
		"a leaf, far too long":        leaf.proof() + strings.Repeat(leaf.proof(), 1<<18),
	} {
		misformed(t, what, text)
	}
	// the greatest form that may be: all are nodes of four, and the leaves are of four
	id := 0
	var grown func(deep int) branch
	grown = func(deep int) branch {
		if deep == api.MaxDeep {
			id += 4
			return leafWith(at(id-3, id, 0), at(id-2, id, 1), at(id-1, id, 2), at(id, id, 3))
		}
		var children []branch
		for range 4 {
			child := grown(deep + 1)
			child.count = min(child.count, api.MaxPoints)
			children = append(children, child)
		}
		return nodeWith(children...)
	}
	// no node above so many can say the truth
	refused(t, "the greatest form", grown(1), everywhere, api.ErrBox)
	if id != 4096 {
		t.Errorf("the greatest form has %d points", id)
	}
}

func TestQueryGoesAheadOfForm(t *testing.T) {
	for _, proof := range []string{"", "junk", exampleTree().proof(), exampleTree().proof()[:9]} {
		for _, q := range []api.Query{near(0, 0, 0), near(0, 0, api.MaxK+1), near(most+1, 0, 1), window(1, 0, 0, 0), window(0, 0, 0, most+1), {Kind: 2}, {Kind: -1}} {
			verified(t, "a query that may not be", to(exampleTree()), q, proof, api.ErrQuery)
			verified(t, "a query that may not be", api.Commitment{}, q, proof, api.ErrQuery)
		}
	}
	for _, n := range []int{math.MinInt, -most - 1, -1, most + 1, math.MaxInt} {
		q := everywhere
		q.X, q.Y, q.K = n, -n, n
		taken(t, "what a Window does not need", exampleTree(), q)
		q = near(0, 0, 5)
		q.MinX, q.MinY, q.MaxX, q.MaxY = n, n, -n, -n
		taken(t, "what a Near does not need", exampleTree(), q)
	}
	if _, e := ward.Verify(to(exampleTree()), api.Query{}, "\x01\x00"); e != api.ErrRoot {
		t.Errorf("P5: the query of zeros may be: %d", e)
	}
}
