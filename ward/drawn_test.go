package ward_test

import (
	"slices"
	"testing"

	"ward/api"
	"ward/ward"
)

// drawer: draws trees, the same ones in every run.
type drawer struct {
	seed   uint32
	id     int
	field  int // how far apart the points are
	faulty bool
}

// draw: a number from 0 to n-1.
func (d *drawer) draw(n int) int {
	d.seed = d.seed*1664525 + 1013904223
	return int(d.seed>>8) % n
}

func (d *drawer) place() (x, y int) {
	return d.draw(d.field) - d.field/2, d.draw(d.field) - d.field/2
}

// branch: of at most that depth, with faults here and there.
func (d *drawer) branch(deepest int) branch {
	var b branch
	if deepest == 1 || d.draw(4) == 0 {
		var points []api.Point
		for range 1 + d.draw(4) {
			x, y := d.place()
			d.id++
			points = append(points, at(d.id*7919%1000+1, x, y))
		}
		b = leafWith(points...)
	} else {
		var children []branch
		for range 1 + d.draw(4) {
			children = append(children, d.branch(deepest-1))
		}
		b = nodeWith(children...)
	}
	if d.faulty && d.draw(8) == 0 {
		return d.spoilt(b)
	}
	return b
}

// spoilt: the same with a fault.
func (d *drawer) spoilt(b branch) branch {
	switch d.draw(6) {
	case 0:
		b.box[d.draw(4)] += d.draw(3) - 1
	case 1:
		b.count += d.draw(3) - 1
	case 2:
		b.digest[d.draw(32)] ^= byte(d.draw(3))
	case 3:
		if len(b.points) > 0 {
			points := slices.Clone(b.points)
			points[d.draw(len(points))].ID = d.draw(20)
			return leafWith(points...)
		}
	case 4:
		if len(b.points) > 0 {
			return leafWith(append(slices.Clone(b.points), at(1001+d.draw(50), 0, 0))...)
		}
	case 5:
		if len(b.points) > 0 {
			points := slices.Clone(b.points)
			points[0].X = []int{most, most + 1, -most, -most - 1}[d.draw(4)]
			return leafWith(points...)
		}
	}
	return b
}

func (d *drawer) query() api.Query {
	x, y := d.place()
	if d.draw(2) == 0 {
		return near(x, y, 1+d.draw(8))
	}
	return window(x, y, min(x+d.draw(d.field), most), min(y+d.draw(d.field), most))
}

// veiled: the same with just the children shown that must be, or with some that are drawn turned about.
func (d *drawer) veiled(b branch, must func(branch) bool, turned bool) branch {
	children := slices.Clone(b.children)
	for i, child := range children {
		children[i] = d.veiled(child, must, turned)
		children[i].hidden = !must(child)
		if turned && d.draw(4) == 0 {
			children[i].hidden = !children[i].hidden
		}
	}
	b.children = children
	return b
}

// mustBeShown: by what is said of the child's box.
func mustBeShown(b branch, q api.Query, answer []api.Point) bool {
	corners := []api.Point{at(1, b.box[0], b.box[1]), at(2, b.box[2], b.box[3])}
	return isShown(corners, q, answer)
}

// each: all children that the proof has, however low, and how deep each is.
func (b branch) each(deep int, tell func(child branch, deep int)) {
	for _, child := range b.children {
		tell(child, deep+1)
		if !child.hidden {
			child.each(deep+1, tell)
		}
	}
}

// isFormed: what makes a text one of a tree, but for what can't be drawn wrong.
func isFormed(root branch) bool {
	formed := len(root.points) <= 4 && len(root.children) <= 4
	root.each(1, func(child branch, deep int) {
		for _, n := range child.box {
			formed = formed && -most <= n && n <= most
		}
		formed = formed && child.box[0] <= child.box[2] && child.box[1] <= child.box[3] && 1 <= child.count && child.count <= 150
		if !child.hidden {
			formed = formed && deep <= 6 && len(child.points) <= 4
		}
	})
	ids := map[int]bool{}
	for _, p := range root.shown() {
		formed = formed && 1 <= p.ID && p.ID <= 1000000 && -most <= p.X && p.X <= most && !ids[p.ID]
		ids[p.ID] = true
	}
	return formed
}

// judged: what is asked of Verify, by another way than taking the text apart.
func judged(root branch, c api.Commitment, q api.Query) ([]api.Point, api.Errno) {
	answer := asked(root.shown(), q)
	falseBox, falseDigest, hidden, waste := false, c != to(root), false, false
	root.each(1, func(child branch, _ int) {
		must := mustBeShown(child, q, answer)
		if child.hidden {
			hidden = hidden || must
			return
		}
		waste = waste || !must
		truth := nodeWith(child.children...)
		if len(child.children) == 0 {
			truth = leafWith(child.points...)
		}
		falseBox = falseBox || truth.box != child.box || truth.count != child.count
		falseDigest = falseDigest || truth.digest != child.digest
	})
	switch {
	case !isFormed(root):
		return nil, api.ErrForm
	case falseBox:
		return nil, api.ErrBox
	case falseDigest:
		return nil, api.ErrRoot
	case hidden:
		return nil, api.ErrHidden
	case waste:
		return nil, api.ErrWaste
	}
	return answer, api.OK
}

func TestDrawnTrees(t *testing.T) {
	d := &drawer{seed: 21}
	seen := map[api.Errno]int{}
	for round := range 6000 {
		d.field = []int{6, 40, 3000, 2*most + 1}[round%4]
		d.faulty = round%3 != 0
		d.id = 0
		root := d.branch(2 + d.draw(4))
		if d.draw(20) == 0 {
			for range 3 {
				root = nodeWith(root, leafWith(at(5000+d.draw(1000), 0, 0)))
			}
		}
		q := d.query()
		answer := asked(root.shown(), q)
		root = d.veiled(root, func(b branch) bool { return mustBeShown(b, q, answer) }, round%2 == 0)
		c := to(root)
		if d.draw(20) == 0 {
			c.Root[d.draw(32)] ^= 1
		}
		if d.draw(20) == 0 {
			c.Count++
		}
		points, want := judged(root, c, q)
		seen[want]++
		if got, e := ward.Verify(c, q, root.proof()); e != want || !slices.Equal(got, points) {
			t.Fatalf("P5: round %d: Verify(%+v) = %v, %d, want %v, %d", round, q, got, e, points, want)
		}
	}
	for _, e := range []api.Errno{api.OK, api.ErrForm, api.ErrBox, api.ErrRoot, api.ErrHidden, api.ErrWaste} {
		if seen[e] < 150 {
			t.Errorf("only %d trees were drawn that ask for %d: %v", seen[e], e, seen)
		}
	}
}
