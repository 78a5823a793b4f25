package ward_test

import (
	"math"
	"slices"
	"strings"
	"testing"

	"ward/api"
	"ward/ward"
)

// someQueries: of both kinds, with answers of some points, of all and of none.
var someQueries = []api.Query{
	everywhere, window(-8, -4, 7, 3), window(-3, -1, 2, 1), window(0, 0, 0, 0), window(20, 20, 30, 30),
	near(0, 0, 1), near(-8, 3, 7), near(30, -30, api.MaxK), near(-1, 2, 4), near(most, -most, 2),
}

func TestEveryProofIsTaken(t *testing.T) {
	points := scattered(api.MaxPoints, 31)
	m := ward.New()
	for n := 0; ; n++ {
		c := m.Commitment()
		for _, q := range someQueries {
			proof, _ := m.Prove(q)
			answer, _ := m.Answer(q)
			if got, e := ward.Verify(c, q, proof); e != api.OK || !slices.Equal(got, answer) || !slices.Equal(got, asked(points[:n], q)) {
				t.Errorf("P6: of %d points: Verify(%+v) = %v, %d, want %v", n, q, got, e, answer)
			}
		}
		if n == len(points) {
			break
		}
		m.Insert(points[n])
	}
}

func TestProofsOfWideMapsAreTaken(t *testing.T) {
	d := &drawer{seed: 32}
	for round := range 60 {
		d.field = []int{5, 100, 2*most + 1}[round%3]
		var points []api.Point
		for id := range d.draw(api.MaxPoints + 1) {
			x, y := d.place()
			points = append(points, at(api.MaxID-id, x, y))
		}
		m := filled(t, points)
		for range 20 {
			q := d.query()
			proof, _ := m.Prove(q)
			verified(t, "P6", m.Commitment(), q, proof, api.OK, asked(points, q)...)
		}
	}
}

// changed: the text with one byte that is another.
func changed(text string, place int, by byte) string {
	b := []byte(text)
	b[place] ^= by
	return string(b)
}

func TestAByteChanged(t *testing.T) {
	for _, n := range []int{0, 1, 4, 5, 17, 65, 150} {
		m := filled(t, scattered(n, 33))
		c := m.Commitment()
		for _, q := range []api.Query{everywhere, window(-3, -1, 2, 1), near(0, 0, 3)} {
			proof, _ := m.Prove(q)
			for place := range proof {
				by := byte(1 << (place % 8))
				if l, e := ward.Verify(c, q, changed(proof, place, by)); e == api.OK || len(l) != 0 {
					t.Fatalf("P6: of %d points: %+v: byte %d changed by %d is taken: %v, %d", n, q, place, by, l, e)
				}
			}
		}
	}
	m := filled(t, five)
	proof, _ := m.Prove(window(0, 0, 6, 6))
	for place := range proof {
		for by := 1; by < 256; by++ {
			if l, e := ward.Verify(m.Commitment(), window(0, 0, 6, 6), changed(proof, place, byte(by))); e == api.OK || len(l) != 0 {
				t.Fatalf("P6: byte %d changed by %d is taken: %v, %d", place, by, l, e)
			}
		}
	}
}

// treeOver: that of points in order; width as for textOf.
func treeOver(points []api.Point, width int) branch {
	if width == 4 {
		return leafWith(points...)
	}
	var children []branch
	for part := range slices.Chunk(points, width/4) {
		children = append(children, treeOver(part, width/4))
	}
	return nodeWith(children...)
}

// veils: the same branch, shown, with all that may be hidden below it, hidden and not.
func veils(b branch) []branch {
	all := []branch{b}
	for i := range b.children {
		var next []branch
		for _, one := range all {
			for _, child := range append(veils(b.children[i]), hide(b.children[i])) {
				with := one
				with.children = slices.Clone(one.children)
				with.children[i] = child
				next = append(next, with)
			}
		}
		all = next
	}
	return all
}

func TestJustOneProofIsTaken(t *testing.T) {
	for _, n := range []int{1, 5, 16, 17, 22} {
		points := scattered(n, 34)
		m := filled(t, points)
		width := 4
		for width < n {
			width *= 4
		}
		all := veils(treeOver(sorted(points), width))
		for _, q := range append([]api.Query{window(-8, -4, -5, 4), near(6, 1, 2), near(-7, 0, 5)}, someQueries...) {
			proof, _ := m.Prove(q)
			times := 0
			for _, root := range all {
				l, e := ward.Verify(m.Commitment(), q, root.proof())
				if (e == api.OK) != (root.proof() == proof) {
					t.Errorf("P6: of %d points: %+v: %q is answered %d, Prove gives %q", n, q, root.proof(), e, proof)
				}
				if e == api.OK {
					times++
				} else if e != api.ErrHidden && e != api.ErrWaste || len(l) != 0 {
					t.Errorf("P5: of %d points: %+v: %v, %d", n, q, l, e)
				}
			}
			if times != 1 {
				t.Errorf("P6: of %d points: %+v: %d of %d proofs are taken", n, q, times, len(all))
			}
		}
	}
}

func TestOtherProofsAreRefused(t *testing.T) {
	points := scattered(40, 35)
	m := filled(t, points)
	c := m.Commitment()
	proofs := map[string]int{}
	for i, q := range someQueries {
		proof, _ := m.Prove(q)
		proofs[proof] = i
	}
	for _, q := range someQueries {
		own, _ := m.Prove(q)
		for proof, i := range proofs {
			l, e := ward.Verify(c, q, proof)
			if (e == api.OK) != (proof == own) || e != api.OK && len(l) != 0 {
				t.Errorf("P6: the proof of %+v is answered to %+v: %v, %d", someQueries[i], q, l, e)
			}
		}
		// another map: a point is elsewhere, is no more, or is new
		for change := range 3 {
			other := filled(t, points)
			other.Delete(points[7].ID)
			switch change {
			case 0:
				other.Insert(at(points[7].ID, points[7].X, points[7].Y+1))
			case 1:
				other.Insert(at(41, points[7].X, points[7].Y))
			}
			proof, _ := other.Prove(q)
			verified(t, "P6: the proof of another map", c, q, proof, api.ErrRoot)
		}
	}
	// the same points in another tree
	in := sorted(points[:6])
	for _, root := range []branch{
		nodeWith(leafWith(in[:3]...), leafWith(in[3:]...)),
		nodeWith(leafWith(in[4:]...), leafWith(in[:4]...)),
		nodeWith(nodeWith(leafWith(in[:4]...), leafWith(in[4:]...))),
		nodeWith(leafWith(in[1], in[0], in[2], in[3]), leafWith(in[4:]...)),
	} {
		taken(t, "another tree with its own commitment", root, everywhere)
		verified(t, "P6: another tree", filled(t, in).Commitment(), everywhere, root.proof(), api.ErrRoot)
	}
}

func TestWhichCameFirstIsNotSeen(t *testing.T) {
	for _, n := range []int{2, 4, 5, 16, 17, 64, 65, 150} {
		points := scattered(n, 36)
		want := filled(t, points).Commitment()
		for turn := range 5 {
			turned := slices.Concat(points[turn*n/5:], points[:turn*n/5])
			if turn%2 == 1 {
				slices.Reverse(turned)
			}
			m := filled(t, turned)
			if m.Commitment() != want {
				t.Errorf("P6: the commitment to %d points hangs on which came first", n)
			}
			for _, q := range someQueries {
				proof, _ := m.Prove(q)
				verified(t, "P6: which came first", want, q, proof, api.OK, asked(points, q)...)
			}
		}
	}
}

func TestNoTextPanics(t *testing.T) {
	d := &drawer{seed: 37, field: 30}
	m := filled(t, scattered(60, 38))
	commitments := []api.Commitment{{}, m.Commitment(), {Count: math.MinInt}, {Count: math.MaxInt}, {Root: [32]byte{255}, Count: -1}}
	var parts []string
	for _, q := range someQueries {
		proof, _ := m.Prove(q)
		parts = append(parts, proof, proof[:54], proof[2:55], "\x01\x04", "\x02\x01", "\x02\x04", "\x00", "\x01")
	}
	for range 20000 {
		text := ""
		for range d.draw(7) {
			part := parts[d.draw(len(parts))]
			if d.draw(3) == 0 {
				part = part[d.draw(len(part)):]
			}
			text += part
		}
		b := []byte(text)
		for range d.draw(3) {
			if len(b) > 0 {
				b[d.draw(len(b))] = byte(d.draw(256))
			}
		}
		q := d.query()
		if l, e := ward.Verify(commitments[d.draw(len(commitments))], q, string(b)); e < api.OK || e > api.ErrWaste || e != api.OK && len(l) != 0 {
			t.Fatalf("P1: Verify(%+v, %q) = %v, %d", q, b, l, e)
		}
	}
	odd := []int{math.MinInt, -most - 1, 0, 1, api.MaxK, most + 1, math.MaxInt}
	for _, kind := range []int{math.MinInt, -1, api.Window, api.Near, 2, math.MaxInt} {
		for _, a := range odd {
			for _, b := range odd {
				q := api.Query{Kind: kind, MinX: a, MinY: b, MaxX: b, MaxY: a, X: a, Y: a, K: b}
				proof, proofError := m.Prove(q)
				if l, e := ward.Verify(m.Commitment(), q, proof); e != proofError || e != api.OK && len(l) != 0 {
					t.Errorf("P1: Verify(%+v) = %v, %d, Prove has %d", q, l, e, proofError)
				}
			}
		}
	}
}

func TestVerifiedAnswersAreNewMemory(t *testing.T) {
	for _, n := range []int{0, 1, 3, 4, 5, 16, 17, 150} {
		points := scattered(n, 39)
		m := filled(t, points)
		for _, q := range someQueries {
			proof, _ := m.Prove(q)
			kept := strings.Clone(proof)
			first, _ := ward.Verify(m.Commitment(), q, proof)
			second, _ := ward.Verify(m.Commitment(), q, proof)
			room := slices.Clone(second[:cap(second)])
			spoil(first)
			_ = append(first[:0], scattered(n, 40)...)
			if !slices.Equal(second, asked(points, q)) || !slices.Equal(second[:cap(second)], room) {
				t.Errorf("P2: of %d points: two answers of Verify(%+v) share memory", n, q)
			}
			if proof != kept {
				t.Errorf("P2: of %d points: Verify(%+v) shares memory with the proof", n, q)
			}
			verified(t, "P2: behind a spoilt answer", m.Commitment(), q, proof, api.OK, asked(points, q)...)
			holds(t, "P2: behind a spoilt answer of Verify", m, sorted(points))
		}
	}
}

func TestVerifyHangsOnItsArgumentsAlone(t *testing.T) {
	m := filled(t, five)
	c, q := m.Commitment(), window(0, 0, 6, 6)
	proof, _ := m.Prove(q)
	for range 3 {
		verified(t, "P2", c, q, proof, api.OK, five[0], five[1])
		verified(t, "P2", c, q, proof[1:], api.ErrForm)
		verified(t, "P2", c, near(0, 0, 5), proof, api.ErrHidden)
		m.Delete(5)
		m.Insert(at(8, 1, 1))
	}
}
