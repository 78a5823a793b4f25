package ward_test

import (
	"math"
	"slices"
	"strings"
	"testing"

	"ward/api"
	"ward/ward"
)

// spoil writes over a list and its spare room.
func spoil(l []api.Point) {
	for i := range l[:cap(l)] {
		l[:cap(l)][i] = api.Point{ID: -9, X: -9, Y: -9}
	}
}

func TestPointsAreNewMemory(t *testing.T) {
	for _, n := range []int{0, 1, 3, 4, 5, 16, 17, 149, 150} {
		points := scattered(n, 5)
		m := filled(t, points)
		want := sorted(points)
		first, second := m.Points(), m.Points()
		room := slices.Clone(second[:cap(second)])
		spoil(first)
		_ = append(first[:0], scattered(n, 6)...)
		if !slices.Equal(second, want) || !slices.Equal(second[:cap(second)], room) {
			t.Errorf("P2: two answers of Points() of %d share memory", n)
		}
		holds(t, "P2: behind a spoilt answer", m, want)
		if n < api.MaxPoints {
			p := api.Point{ID: n + 1, X: api.MaxCoord}
			if e := m.Insert(p); e != api.OK {
				t.Errorf("P3: Insert(%v) = %d", p, e)
			}
			spoil(first)
			holds(t, "P2: a spoilt answer, behind an Insert", m, append(want, p))
		}
	}
}

func TestPointsKeepWhatTheyTold(t *testing.T) {
	m := filled(t, five)
	told := m.Points()
	m.Delete(3)
	m.Insert(api.Point{ID: 3, X: -100})
	m.Delete(1)
	if !slices.Equal(told, fiveInOrder) {
		t.Errorf("P2: an answer of Points() changed with the map: %v", told)
	}
	c := m.Commitment()
	kept := c
	m.Delete(2)
	m.Commitment()
	if c != kept {
		t.Errorf("P2: an answer of Commitment() changed with the map")
	}
}

func TestAskingChangesNothing(t *testing.T) {
	points := scattered(17, 8)
	asked, left := ward.New(), ward.New()
	for _, p := range points {
		asked.Insert(p)
		left.Insert(p)
		for range 3 {
			asked.Points()
			asked.Commitment()
		}
	}
	if asked.Commitment() != left.Commitment() || !slices.Equal(asked.Points(), left.Points()) {
		t.Errorf("P2: asking changed the map")
	}
	if asked.Commitment() != asked.Commitment() || !slices.Equal(asked.Points(), asked.Points()) {
		t.Errorf("P2: a call answers otherwise the second time")
	}
}

func TestMapsKnowNothingOfOneAnother(t *testing.T) {
	a, b := ward.New(), ward.New()
	if a == b {
		t.Fatal("P2: New gave one map twice")
	}
	for _, p := range five {
		if e := a.Insert(p); e != api.OK {
			t.Errorf("P2: Insert(%v) = %d", p, e)
		}
	}
	holds(t, "P2: the other map", b, nil)
	if e := b.Insert(api.Point{ID: 1, X: 4}); e != api.OK {
		t.Errorf("P2: an id that is taken in another map: %d", e)
	}
	if e := b.Delete(2); e != api.ErrUnknown {
		t.Errorf("P2: a point of another map: %d", e)
	}
	holds(t, "P2: the first map", a, fiveInOrder)
	holds(t, "P2: the second map", b, []api.Point{{ID: 1, X: 4}})
}

func TestNoCallPanics(t *testing.T) {
	odd := []int{math.MinInt, math.MinInt32, -api.MaxCoord - 1, -api.MaxCoord, -1, 0, 1, api.MaxID, api.MaxID + 1, math.MaxInt32, 1<<32 + 1, math.MaxInt}
	m := ward.New()
	for _, id := range odd {
		for _, x := range odd {
			for _, y := range odd {
				inserted := m.Insert(api.Point{ID: id, X: x, Y: y})
				want := len(m.Points())
				if m.Commitment().Count != want {
					t.Fatalf("P1: the commitment's number is not %d", want)
				}
				if inserted == api.OK && (id < 1 || id > api.MaxID) {
					t.Errorf("P1: Insert of id %d = OK", id)
				}
				if deleted := m.Delete(id); deleted != inserted && inserted == api.OK {
					t.Errorf("P1: Delete(%d) = %d", id, deleted)
				}
			}
		}
	}
	holds(t, "P1: behind odd arguments", m, nil)
	for _, text := range []string{"", "\x00", "\xff\xfe", strings.Repeat("\x80", 1000)} {
		if ward.Digest(text) != digestOf(text) {
			t.Errorf("P1: Digest(%.20q)", text)
		}
	}
}
