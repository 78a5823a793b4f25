package ward_test

import (
	"fmt"
	"math"
	"math/bits"
	"slices"
	"testing"

	"ward/api"
	"ward/ward"
)

func TestVerifyTheExamples(t *testing.T) {
	both := exampleTree()
	first := nodeWith(both.children[0], hide(both.children[1]))
	second := nodeWith(hide(both.children[0]), both.children[1])
	none := nodeWith(hide(both.children[0]), hide(both.children[1]))
	c := filled(t, five).Commitment()
	byID := func(ids ...int) []api.Point {
		var points []api.Point
		for _, id := range ids {
			points = append(points, five[id-1])
		}
		return points
	}
	for _, x := range []struct {
		what   string
		q      api.Query
		proof  branch
		want   api.Errno
		points []api.Point
	}{
		{"Window 0 0 6 6", window(0, 0, 6, 6), first, api.OK, byID(1, 2)},
		{"Window 0 0 6 6, too much", window(0, 0, 6, 6), both, api.ErrWaste, nil},
		{"Window 0 0 6 6, the other leaf", window(0, 0, 6, 6), second, api.ErrHidden, nil},
		{"Window 0 0 6 6, nothing", window(0, 0, 6, 6), none, api.ErrHidden, nil},
		{"a window of no child", window(10, 6, 19, 19), none, api.OK, nil},
		{"a window of no child, too much", window(10, 6, 19, 19), second, api.ErrWaste, nil},
		{"a window in a box, of no point", window(1, 1, 2, 2), first, api.OK, nil},
		{"Near 6 6, K 2", near(6, 6, 2), first, api.OK, byID(2, 4)},
		{"Near 6 6, K 2, too much", near(6, 6, 2), both, api.ErrWaste, nil},
		{"Near 6 6, K 2, nothing", near(6, 6, 2), none, api.ErrHidden, nil},
		{"Near 6 6, K 2, the other leaf", near(6, 6, 2), second, api.ErrHidden, nil},
		{"Near 0 0, K 5", near(0, 0, 5), both, api.OK, byID(1, 2, 3, 4, 5)},
		{"Near 0 0, K 5, too little", near(0, 0, 5), first, api.ErrHidden, nil},
		{"Near, the second leaf alone", near(20, 20, 1), second, api.OK, byID(5)},
	} {
		verified(t, x.what, c, x.q, x.proof.proof(), x.want, x.points...)
	}
	verified(t, "no points", commitmentTo("\x01\x00", 0), everywhere, "\x01\x00", api.OK)
	verified(t, "no points", ward.New().Commitment(), near(0, 0, 3), "\x01\x00", api.OK)
}

func TestTreesOfAnyShape(t *testing.T) {
	for what, root := range map[string]branch{
		"a leaf, not in order":             leafWith(at(1, 9, 9), at(4, 3, 3), at(2, 3, 3), at(3, -5, 8)),
		"a leaf that is not filled":        nodeWith(leafWith(at(1, 0, 0)), leafWith(at(2, 1, 1), at(3, 2, 2))),
		"leaves, not in order":             nodeWith(leafWith(at(9, 9, 9)), leafWith(at(8, 1, 5), at(7, 1, 4)), leafWith(at(6, 5, 5))),
		"leaves over one another":          nodeWith(leafWith(at(1, 0, 0), at(2, 9, 9)), leafWith(at(3, 5, 5), at(4, 1, 1)), leafWith(at(5, 9, 9))),
		"a node of one child":              nodeWith(nodeWith(nodeWith(leafWith(at(1, 3, 3))))),
		"a leaf beside a node":             nodeWith(leafWith(at(4, 7, 7)), nodeWith(leafWith(at(3, 6, 6)), leafWith(at(2, 8, 8)))),
		"a node beside a leaf":             nodeWith(nodeWith(nodeWith(leafWith(at(4, 0, 1))), leafWith(at(3, 0, 1))), leafWith(at(2, 0, 1), at(1, 0, 1))),
		"points at one place, ids falling": nodeWith(leafWith(at(9, 1, 1), at(8, 1, 1)), leafWith(at(7, 1, 1)), leafWith(at(6, 1, 1), at(5, 1, 1))),
	} {
		taken(t, what, root, everywhere)
		for k := 1; k <= 6; k++ {
			if k >= root.count {
				taken(t, what, root, near(2, 2, k))
			}
		}
	}
}

func TestFalseBoxes(t *testing.T) {
	leaf := leafWith(at(1, 3, 4), at(2, 8, 1))
	node := nodeWith(leafWith(at(3, 20, 20)), hide(leafWith(at(4, 40, -7), at(5, 30, 6))), leafWith(at(6, 22, 0)))
	other := leafWith(at(7, 20, 5))
	q := window(-9, -9, 29, 29)
	taken(t, "true boxes", nodeWith(leaf, node, other), q)
	for part := range 5 {
		for _, more := range []int{-1, 1, 100, -100} {
			what := fmt.Sprint("part ", part, " of a box or number has ", more, " more")
			for _, child := range []branch{leaf, node} {
				if part < 4 {
					child.box[part] += more
				} else {
					child.count += more
				}
				root := nodeWith(other, child)
				want := api.ErrBox
				if child.box[0] > child.box[2] || child.box[1] > child.box[3] || child.count < 1 {
					want = api.ErrForm
				}
				refused(t, what, root, q, want)
				refused(t, what+", lower", nodeWith(nodeWith(root)), q, want)
			}
		}
	}
}

func TestBoxesOfWhatIsHidden(t *testing.T) {
	lies := hide(leafWith(at(1, 50, 50)))
	lies.box = [4]int{40, 40, 90, 70}
	lies.count = 99
	lies.digest = [32]byte{1, 2, 3}
	shown := leafWith(at(2, 0, 0))
	// nobody can know that it is false, and the node above it has the box and the number that are said
	taken(t, "lies of what is hidden", nodeWith(shown, lies), window(0, 0, 9, 9))
	taken(t, "lies of what is hidden, lower", nodeWith(nodeWith(shown, lies), hide(leafWith(at(3, 60, 60)))), window(0, 0, 9, 9))
	inner := nodeWith(shown, lies)
	inner.box = [4]int{0, 0, 50, 50}
	refused(t, "a box that has the hidden point, not the hidden box", nodeWith(inner), window(0, 0, 9, 9), api.ErrBox)
	inner = nodeWith(shown, lies)
	inner.count = 2
	refused(t, "the number of points, not those that are said", nodeWith(inner), window(0, 0, 9, 9), api.ErrBox)
	inner.count = 1
	refused(t, "the number of what is shown", nodeWith(inner), window(0, 0, 9, 9), api.ErrBox)
	// what is shown is not what counts in a box: a child that is shown may be too far for the window
	refused(t, "a box of shown children alone", nodeWith(shown, lies), window(40, 40, 41, 41), api.ErrHidden)
}

func TestFalseDigests(t *testing.T) {
	leaf := leafWith(at(1, 3, 4))
	node := nodeWith(leafWith(at(2, 5, 5)), hide(leafWith(at(3, 50, 50))))
	q := window(0, 0, 9, 9)
	taken(t, "true digests", nodeWith(leaf, node), q)
	for i := range 32 {
		for _, child := range []branch{leaf, node} {
			child.digest[i]++
			refused(t, fmt.Sprint("byte ", i, " of a digest"), nodeWith(child), q, api.ErrRoot)
			refused(t, fmt.Sprint("byte ", i, " of a digest, lower"), nodeWith(nodeWith(leafWith(at(9, 0, 0)), nodeWith(child))), q, api.ErrRoot)
		}
		c := to(leaf)
		c.Root[i]--
		verified(t, fmt.Sprint("byte ", i, " of the commitment"), c, q, leaf.proof(), api.ErrRoot)
		c = to(nodeWith(leaf, node))
		c.Root[i] ^= 128
		verified(t, fmt.Sprint("byte ", i, " of the commitment"), c, q, nodeWith(leaf, node).proof(), api.ErrRoot)
	}
	// a node's digest is that of its text, not of its proof
	child := node
	child.digest = digestOf(child.proof())
	refused(t, "the digest of a proof", nodeWith(child), q, api.ErrRoot)
	root := nodeWith(leaf, node)
	verified(t, "the digest of a proof", commitmentTo(root.proof(), root.count), q, root.proof(), api.ErrRoot)
	// a false digest is not made good by the one above it
	child = node
	child.children = slices.Clone(node.children)
	child.children[0].digest[31]++
	refused(t, "a false digest below one that has it", nodeWith(nodeWith(child.children...)), q, api.ErrRoot)
	refused(t, "a false digest below one that lacks it", nodeWith(child), q, api.ErrRoot)
}

func TestFalseCommitments(t *testing.T) {
	q := window(0, 0, 9, 9)
	for what, root := range map[string]branch{
		"a root of none": leafWith(),
		"a leaf":         leafWith(at(1, 3, 4), at(2, 5, 5)),
		"a node":         nodeWith(leafWith(at(1, 3, 4)), hide(leafWith(at(2, 50, 50), at(3, 51, 50)))),
	} {
		verified(t, what, to(root), q, root.proof(), api.OK, root.shown()...)
		verified(t, what+", no commitment", api.Commitment{}, q, root.proof(), api.ErrRoot)
		verified(t, what+", the number alone", api.Commitment{Count: root.count}, q, root.proof(), api.ErrRoot)
		for _, count := range []int{root.count - 1, root.count + 1, -root.count - 1, root.count + 1<<32, root.count - 1<<32, math.MinInt, math.MaxInt} {
			c := to(root)
			c.Count = count
			verified(t, fmt.Sprint(what, ", the number ", count), c, q, root.proof(), api.ErrRoot)
		}
	}
	verified(t, "another leaf", to(leafWith(at(1, 3, 4))), q, leafWith(at(1, 3, 5)).proof(), api.ErrRoot)
}

func TestWindowsThatTouch(t *testing.T) {
	leaf, other := leafWith(at(1, 0, -5), at(2, 9, 5)), leafWith(at(3, 500, 500))
	for _, x := range []struct {
		q    api.Query
		must bool
	}{
		{window(9, 5, 99, 99), true}, {window(-9, -9, 0, -5), true}, {window(-9, 5, 0, 9), true}, {window(9, -9, 99, -5), true},
		{window(3, 3, 4, 4), true}, {window(-99, -99, 99, 99), true}, {window(-99, 0, 99, 0), true}, {window(4, -99, 4, 99), true},
		{window(10, 5, 99, 99), false}, {window(9, 6, 99, 99), false}, {window(-9, -9, -1, -5), false}, {window(-9, -9, 0, -6), false},
		{window(10, -5, 10, 5), false}, {window(0, -6, 9, -6), false},
	} {
		shown, hidden := nodeWith(leaf, hide(other)), nodeWith(hide(other), hide(leaf))
		if x.must {
			taken(t, "a box that the window touches", shown, x.q)
			taken(t, "a box that the window touches, lower", nodeWith(shown), x.q)
			refused(t, "a box that the window touches, hidden", hidden, x.q, api.ErrHidden)
		} else {
			taken(t, "a box beside the window, hidden", hidden, x.q)
			refused(t, "a box beside the window", shown, x.q, api.ErrWaste)
			refused(t, "a box beside the window, in a node beside it", nodeWith(shown, hide(leafWith(at(9, 600, 600)))), x.q, api.ErrWaste)
		}
	}
}

func TestDistanceOfTheLastPoint(t *testing.T) {
	// the answer's last point is at 25
	close := leafWith(at(10, 0, 5), at(11, 0, 1))
	for _, x := range []struct {
		p    api.Point
		must bool
	}{
		{at(1, 3, 4), true}, {at(99, 3, 4), true}, {at(1, -5, 0), true}, {at(99, 0, -5), true}, {at(1, 4, 2), true}, {at(99, 4, -2), true},
		{at(1, 5, 1), false}, {at(99, 5, 1), false}, {at(1, 0, 6), false}, {at(1, -4, -4), false},
	} {
		q := near(0, 0, 2)
		shown, hidden := nodeWith(close, leafWith(x.p)), nodeWith(close, hide(leafWith(x.p)))
		if x.must {
			taken(t, "a child no farther than the last point", shown, q)
			taken(t, "a child no farther than the last point", nodeWith(shown.children[1], close), q)
			refused(t, "a child no farther than the last point, hidden", hidden, q, api.ErrHidden)
		} else {
			taken(t, "a child beyond the last point, hidden", hidden, q)
			refused(t, "a child beyond the last point", shown, q, api.ErrWaste)
			refused(t, "a child beyond the last point", nodeWith(shown.children[1], close), q, api.ErrWaste)
		}
	}
	// a box just as far as the last point, whose points are farther: it must be shown, and gives nothing
	corner := leafWith(at(1, 3, 9), at(2, 9, 4))
	taken(t, "a box just as far", nodeWith(close, corner), near(0, 0, 2))
	refused(t, "a box just as far, hidden", nodeWith(close, hide(corner)), near(0, 0, 2), api.ErrHidden)
	// with distances beyond 32 bits
	wide := nodeWith(leafWith(at(1, 65536, 0)), leafWith(at(2, 0, 3)))
	taken(t, "a great distance", nodeWith(hide(wide.children[0]), wide.children[1]), near(0, 0, 1))
	refused(t, "a great distance", wide, near(0, 0, 1), api.ErrWaste)
}

func TestFewerThanK(t *testing.T) {
	close, far, farthest := leafWith(at(1, 0, 0), at(2, 1, 1)), leafWith(at(3, 100, 100)), leafWith(at(4, most, most))
	for k := 1; k <= api.MaxK; k++ {
		q := near(0, 0, k)
		all := nodeWith(close, far, farthest)
		two := nodeWith(close, far, hide(farthest))
		one := nodeWith(close, hide(far), hide(farthest))
		none := nodeWith(hide(close), hide(far), hide(farthest))
		refused(t, "nothing is shown", none, q, api.ErrHidden)
		right := min(max(k-2, 0), 2)
		for i, root := range []branch{one, two, all} {
			what := fmt.Sprint("K ", k, ", leaves shown: ", i+1)
			switch {
			case i < right:
				refused(t, what, root, q, api.ErrHidden)
			case i > right:
				refused(t, what, root, q, api.ErrWaste)
			default:
				taken(t, what, root, q)
			}
		}
	}
}

func TestTheAnswerIsOfWhatIsShown(t *testing.T) {
	// the hidden leaf has nearer points than the shown ones, but its box says that it is far: nobody can know
	lies := hide(leafWith(at(1, 0, 0)))
	lies.box = [4]int{50, 50, 60, 60}
	taken(t, "nearer points that are hidden", nodeWith(leafWith(at(2, 5, 5), at(3, 6, 6)), lies), near(0, 0, 2))
	taken(t, "points of the window that are hidden", nodeWith(leafWith(at(2, 5, 5), at(3, 6, 6)), lies), window(0, 0, 9, 9))
	// its box says that it is near, so the far points that are shown are no answer
	lies.box = [4]int{1, 1, 60, 60}
	refused(t, "a near box that is hidden", nodeWith(leafWith(at(2, 5, 5), at(3, 6, 6)), lies), near(0, 0, 2), api.ErrHidden)
}

// pieces: five leaves, each true or with one fault. All but the last must be shown to the queries, and are as near as one another.
func pieces(faults int) []branch {
	all := []branch{leafWith(at(1, 5, 0)), leafWith(at(2, -5, 0)), leafWith(at(3, 0, 5)), leafWith(at(4, 0, -5)), hide(leafWith(at(5, 40, 40)))}
	if faults&1 != 0 {
		all[0] = leafWith(at(0, 5, 0))
	}
	if faults&2 != 0 {
		all[1].box[3]++
	}
	if faults&4 != 0 {
		all[2].digest[0]++
	}
	if faults&8 != 0 {
		all[3].hidden = true
	}
	if faults&16 != 0 {
		all[4].hidden = false
	}
	return all
}

// orders: all in which n things can stand.
func orders(n int) [][]int {
	if n == 0 {
		return [][]int{nil}
	}
	var all [][]int
	for _, order := range orders(n - 1) {
		for place := range n {
			all = append(all, slices.Insert(slices.Clone(order), place, n-1))
		}
	}
	return all
}

func TestTheErrorNamedFirst(t *testing.T) {
	named := []api.Errno{api.ErrForm, api.ErrBox, api.ErrRoot, api.ErrHidden, api.ErrWaste}
	for faults := range 32 {
		want, elsewhere := api.OK, api.ErrRoot
		if first := bits.TrailingZeros(uint(faults)); faults != 0 {
			want, elsewhere = named[first], min(named[first], api.ErrRoot)
		}
		for _, order := range orders(5) {
			var l []branch
			for _, i := range order {
				l = append(l, pieces(faults)[i])
			}
			what := fmt.Sprint("faults ", faults, " in the order ", order)
			for _, root := range []branch{nodeWith(nodeWith(l[:3]...), nodeWith(l[3:]...)), nodeWith(l[0], l[1], nodeWith(l[2:]...))} {
				for _, q := range []api.Query{window(-9, -9, 9, 9), near(0, 0, 2)} {
					var points []api.Point
					if want == api.OK {
						points = asked(root.shown(), q)
					}
					verified(t, what, to(root), q, root.proof(), want, points...)
					verified(t, what+" and another commitment", api.Commitment{}, q, root.proof(), elsewhere)
				}
				verified(t, what+" and no query", to(root), near(0, 0, 0), root.proof(), api.ErrQuery)
			}
		}
	}
}

func TestFormGoesAheadFromBehind(t *testing.T) {
	// all other faults stand ahead of the bytes behind the proof
	root := nodeWith(pieces(30)[1:]...)
	refused(t, "without bytes behind it", root, window(-9, -9, 9, 9), api.ErrBox)
	verified(t, "with a byte behind it", to(root), window(-9, -9, 9, 9), root.proof()+"\x00", api.ErrForm)
	verified(t, "cut short", to(root), window(-9, -9, 9, 9), root.proof()[:len(root.proof())-1], api.ErrForm)
}
