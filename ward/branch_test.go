package ward_test

import (
	"slices"
	"testing"

	"ward/api"
	"ward/ward"
)

// branch: a leaf or a node of a tree that is made by hand, and what the node above says of it, true or not.
type branch struct {
	points   []api.Point
	children []branch
	box      [4]int // least X, least Y, greatest X, greatest Y
	count    int
	digest   [32]byte
	hidden   bool
}

// leafWith: a leaf of which the truth is said.
func leafWith(points ...api.Point) branch {
	b := branch{points: points, count: len(points)}
	for i, p := range points {
		b.box = joined(i == 0, b.box, [4]int{p.X, p.Y, p.X, p.Y})
	}
	b.digest = digestOf(b.text())
	return b
}

// nodeWith: a node of which the truth is said, as far as it hangs on what is said of its children.
func nodeWith(children ...branch) branch {
	b := branch{children: children}
	for i, child := range children {
		b.box = joined(i == 0, b.box, child.box)
		b.count += child.count
	}
	b.digest = digestOf(b.text())
	return b
}

// joined: the smallest box that has both, or, if it is the first, has the other.
func joined(isFirst bool, box, other [4]int) [4]int {
	if isFirst {
		return other
	}
	return [4]int{min(box[0], other[0]), min(box[1], other[1]), max(box[2], other[2]), max(box[3], other[3])}
}

// at: a point of that id, at the place.
func at(id, x, y int) api.Point { return api.Point{ID: id, X: x, Y: y} }

// hide: the same, not shown.
func hide(b branch) branch {
	b.hidden = true
	return b
}

// said: what the node above says of it.
func (b branch) said() string {
	return fourBytes(b.box[0], b.box[1], b.box[2], b.box[3], b.count) + string(b.digest[:])
}

func (b branch) text() string {
	if len(b.children) == 0 {
		return b.proof()
	}
	text := string([]byte{2, byte(len(b.children))})
	for _, child := range b.children {
		text += child.said()
	}
	return text
}

func (b branch) proof() string {
	if len(b.children) == 0 {
		text := string([]byte{1, byte(len(b.points))})
		for _, p := range b.points {
			text += fourBytes(p.ID, p.X, p.Y)
		}
		return text
	}
	proof := string([]byte{2, byte(len(b.children))})
	for _, child := range b.children {
		proof += child.said()
		if child.hidden {
			proof += "\x00"
		} else {
			proof += "\x01" + child.proof()
		}
	}
	return proof
}

// shown: all points that the proof shows.
func (b branch) shown() []api.Point {
	all := slices.Clone(b.points)
	for _, child := range b.children {
		if !child.hidden {
			all = append(all, child.shown()...)
		}
	}
	return all
}

// commitmentTo: to a tree of this text.
func commitmentTo(text string, count int) api.Commitment {
	return api.Commitment{Root: digestOf(text), Count: count}
}

// to: the commitment to the root, by what is said below it.
func to(root branch) api.Commitment {
	count := len(root.points)
	for _, child := range root.children {
		count += child.count
	}
	return commitmentTo(root.text(), count)
}

// verified: the proof is refused with that error, or taken with these points.
func verified(t *testing.T, what string, c api.Commitment, q api.Query, proof string, want api.Errno, points ...api.Point) {
	t.Helper()
	if got, e := ward.Verify(c, q, proof); e != want || !slices.Equal(got, points) {
		t.Errorf("P5: %s: Verify(%+v, %.400q) = %v, %d, want %v, %d", what, q, proof, got, e, points, want)
	}
}

// taken: the proof of that root is taken with the commitment to it, and the answer is that of what is shown.
func taken(t *testing.T, what string, root branch, q api.Query) {
	t.Helper()
	verified(t, what, to(root), q, root.proof(), api.OK, asked(root.shown(), q)...)
}

// refused: the proof of that root is refused with the commitment to it.
func refused(t *testing.T, what string, root branch, q api.Query, want api.Errno) {
	t.Helper()
	verified(t, what, to(root), q, root.proof(), want)
}

// misformed: the text is refused by its form, whatever is asked, also with the commitment to it.
func misformed(t *testing.T, what string, text string) {
	t.Helper()
	for _, q := range []api.Query{everywhere, near(0, 0, 1), window(3, 3, 4, 4)} {
		verified(t, what, commitmentTo(text, 1), q, text, api.ErrForm)
		verified(t, what, api.Commitment{}, q, text, api.ErrForm)
	}
}

// formed: the text may be refused, but not by its form.
func formed(t *testing.T, what string, text string) {
	t.Helper()
	for _, q := range []api.Query{everywhere, near(0, 0, 1), window(3, 3, 4, 4)} {
		if _, e := ward.Verify(api.Commitment{Count: -1}, q, text); e != api.ErrBox && e != api.ErrRoot {
			t.Errorf("P5: %s: Verify(%+v, %.400q) = %d", what, q, text, e)
		}
	}
}
