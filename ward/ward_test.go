package ward_test

import (
	"fmt"
	"math"
	"slices"
	"strings"
	"testing"

	"ward/api"
	"ward/ward"
)

// five: the points of the document's example, and as they are in order.
var (
	five        = []api.Point{{ID: 1}, {ID: 2, X: 5, Y: 5}, {ID: 3, X: 5, Y: -5}, {ID: 4, X: 9}, {ID: 5, X: 20, Y: 20}}
	fiveInOrder = []api.Point{{ID: 1}, {ID: 3, X: 5, Y: -5}, {ID: 2, X: 5, Y: 5}, {ID: 4, X: 9}, {ID: 5, X: 20, Y: 20}}
)

// filled: a map with these points.
func filled(t *testing.T, points []api.Point) *ward.Map {
	t.Helper()
	m := ward.New()
	for _, p := range points {
		if e := m.Insert(p); e != api.OK {
			t.Fatalf("P3: Insert(%v) = %d", p, e)
		}
	}
	return m
}

// scattered: n points of ids 1 to n, many of them at one X or at one place; each seed has its own.
func scattered(n int, seed uint32) []api.Point {
	points := make([]api.Point, n)
	for i := range points {
		seed = seed*1664525 + 1013904223
		points[i] = api.Point{ID: i + 1, X: int(seed>>28) - 8, Y: int(seed>>24&7) - 4}
	}
	points = append(points[n/2:n:n], points[:n/2]...)
	return points
}

// sorted: the points in order, by other means than the map's.
func sorted(points []api.Point) []api.Point {
	l := slices.Clone(points)
	slices.SortFunc(l, func(a, b api.Point) int {
		for _, d := range []int{a.X - b.X, a.Y - b.Y, a.ID - b.ID} {
			if d != 0 {
				return d
			}
		}
		return 0
	})
	return l
}

// holds: the map has these points, which are in order, and the commitment to them.
func holds(t *testing.T, what string, m *ward.Map, want []api.Point) {
	t.Helper()
	if got := m.Points(); !slices.Equal(got, want) {
		t.Errorf("%s: Points() = %v, want %v", what, got, want)
	}
	if got := m.Commitment(); got != committed(want) {
		t.Errorf("%s: Commitment() = %x, want %x", what, got, committed(want))
	}
}

func TestDigest(t *testing.T) {
	d := ward.Digest("abc")
	if !slices.Equal(d[:4], []byte{186, 120, 22, 191}) || !slices.Equal(d[29:], []byte{0, 21, 173}) {
		t.Errorf("P3: Digest(abc) = %v", d)
	}
	for length := range 200 {
		text := strings.Repeat("\xf1", length)
		if got := ward.Digest(text); got != digestOf(text) {
			t.Errorf("P3: Digest of %d bytes = %x", length, got)
		}
	}
}

func TestInsertErrors(t *testing.T) {
	for _, c := range []struct {
		p    api.Point
		want api.Errno
	}{
		{api.Point{ID: 0}, api.ErrID},
		{api.Point{ID: -1}, api.ErrID},
		{api.Point{ID: api.MaxID + 1}, api.ErrID},
		{api.Point{ID: 1<<32 + 1}, api.ErrID},
		{api.Point{ID: math.MinInt}, api.ErrID},
		{api.Point{ID: math.MaxInt}, api.ErrID},
		{api.Point{ID: 6, X: api.MaxCoord + 1}, api.ErrRange},
		{api.Point{ID: 6, X: -api.MaxCoord - 1}, api.ErrRange},
		{api.Point{ID: 6, Y: api.MaxCoord + 1}, api.ErrRange},
		{api.Point{ID: 6, Y: -api.MaxCoord - 1}, api.ErrRange},
		{api.Point{ID: 6, X: math.MinInt, Y: math.MaxInt}, api.ErrRange},
		{api.Point{ID: 6, X: 1 << 32}, api.ErrRange},
		{api.Point{ID: 1}, api.ErrTaken},
		{api.Point{ID: 5, X: -20, Y: -20}, api.ErrTaken},
		// several apply: the one named first
		{api.Point{ID: 0, X: api.MaxCoord + 1}, api.ErrID},
		{api.Point{ID: api.MaxID + 1, Y: math.MinInt}, api.ErrID},
		{api.Point{ID: 1, X: api.MaxCoord + 1}, api.ErrRange},
		{api.Point{ID: 1, Y: -api.MaxCoord - 1}, api.ErrRange},
	} {
		m := filled(t, five)
		if got := m.Insert(c.p); got != c.want {
			t.Errorf("P3: Insert(%v) = %d, want %d", c.p, got, c.want)
		}
		holds(t, "P1: behind a refused Insert", m, fiveInOrder)
	}
}

func TestInsertAtTheEdges(t *testing.T) {
	edges := []api.Point{
		{ID: 2, X: -api.MaxCoord, Y: -api.MaxCoord},
		{ID: 1, X: -api.MaxCoord, Y: api.MaxCoord},
		{ID: api.MaxID, X: api.MaxCoord, Y: -api.MaxCoord},
		{ID: api.MaxID - 1, X: api.MaxCoord, Y: api.MaxCoord},
	}
	holds(t, "P3: the edges", filled(t, edges), edges)
	slices.Reverse(edges)
	holds(t, "P3: the edges", filled(t, edges), sorted(edges))
}

func TestMaxPoints(t *testing.T) {
	points := scattered(api.MaxPoints, 1)
	m := filled(t, points)
	full := sorted(points)
	for _, c := range []struct {
		p    api.Point
		want api.Errno
	}{
		{api.Point{ID: 151}, api.ErrLimit},
		{api.Point{ID: api.MaxID, X: api.MaxCoord, Y: api.MaxCoord}, api.ErrLimit},
		{api.Point{ID: 150}, api.ErrTaken},
		{api.Point{ID: 151, X: api.MaxCoord + 1}, api.ErrRange},
		{api.Point{ID: 0}, api.ErrID},
	} {
		if got := m.Insert(c.p); got != c.want {
			t.Errorf("P3: Insert(%v) into a full map = %d, want %d", c.p, got, c.want)
		}
	}
	holds(t, "P3: a full map", m, full)
	if e := m.Delete(77); e != api.OK {
		t.Errorf("P3: Delete(77) of a full map = %d", e)
	}
	if e := m.Insert(api.Point{ID: 151}); e != api.OK {
		t.Errorf("P3: Insert where there is room again = %d", e)
	}
	if e := m.Insert(api.Point{ID: 77}); e != api.ErrLimit {
		t.Errorf("P3: Insert into a map that is full again = %d", e)
	}
}

func TestDelete(t *testing.T) {
	m := filled(t, five)
	for _, id := range []int{0, -1, 6, api.MaxID, api.MaxID + 1, 1<<32 + 1, math.MinInt, math.MaxInt} {
		if e := m.Delete(id); e != api.ErrUnknown {
			t.Errorf("P3: Delete(%d) = %d", id, e)
		}
		holds(t, "P1: behind a refused Delete", m, fiveInOrder)
	}
	left := slices.Clone(fiveInOrder)
	for _, id := range []int{2, 5, 1, 4, 3} {
		if e := m.Delete(id); e != api.OK {
			t.Errorf("P3: Delete(%d) = %d", id, e)
		}
		left = slices.DeleteFunc(left, func(p api.Point) bool { return p.ID == id })
		holds(t, fmt.Sprint("P3: Delete ", id), m, left)
		if e := m.Delete(id); e != api.ErrUnknown {
			t.Errorf("P3: Delete(%d) twice = %d", id, e)
		}
	}
	if e := ward.New().Delete(1); e != api.ErrUnknown {
		t.Errorf("P3: Delete of a map without points = %d", e)
	}
	if e := m.Insert(api.Point{ID: 2, X: -7}); e != api.OK {
		t.Errorf("P3: Insert of an id that is free again = %d", e)
	}
	holds(t, "P3: an id that is free again", m, []api.Point{{ID: 2, X: -7}})
}

func TestOrderOfPoints(t *testing.T) {
	holds(t, "P3: the example", filled(t, five), fiveInOrder)
	one := []api.Point{{ID: 10, X: 3, Y: 3}, {ID: 9, X: 3, Y: 3}, {ID: 1, X: 3, Y: 4}, {ID: 2, X: 3, Y: -4}, {ID: 99, X: -3, Y: 9}}
	holds(t, "P3: X, then Y, then id", filled(t, one), []api.Point{{ID: 99, X: -3, Y: 9}, {ID: 2, X: 3, Y: -4}, {ID: 9, X: 3, Y: 3}, {ID: 10, X: 3, Y: 3}, {ID: 1, X: 3, Y: 4}})
	if l := ward.New().Points(); len(l) != 0 {
		t.Errorf("P3: Points() of none = %v", l)
	}
}

func TestManySteps(t *testing.T) {
	m := ward.New()
	var model []api.Point
	seed := uint32(7)
	for range 3000 {
		seed = seed*1664525 + 1013904223
		id := int(seed>>8)%200 + 1
		at := slices.IndexFunc(model, func(p api.Point) bool { return p.ID == id })
		if seed>>30 == 0 {
			want := api.OK
			if at < 0 {
				want = api.ErrUnknown
			} else {
				model = slices.Delete(model, at, at+1)
			}
			if got := m.Delete(id); got != want {
				t.Fatalf("P3: Delete(%d) = %d, want %d", id, got, want)
			}
		} else {
			p := api.Point{ID: id, X: int(seed>>20) % 9, Y: int(seed>>16) % 9}
			want := api.OK
			if at >= 0 {
				want = api.ErrTaken
			} else if len(model) == api.MaxPoints {
				want = api.ErrLimit
			} else {
				model = sorted(append(model, p))
			}
			if got := m.Insert(p); got != want {
				t.Fatalf("P3: Insert(%v) = %d, want %d", p, got, want)
			}
		}
		if !slices.Equal(m.Points(), model) {
			t.Fatalf("P3: Points() = %v, want %v", m.Points(), model)
		}
	}
	holds(t, "P3: many steps", m, model)
}
