package plane

import (
	"math"
	"testing"

	"ward/api"
)

func TestIDs(t *testing.T) {
	for n, want := range map[int]bool{
		math.MinInt: false, -1: false, 0: false, 1: true, 2: true,
		api.MaxID - 1: true, api.MaxID: true, api.MaxID + 1: false, 1<<32 + 1: false, math.MaxInt: false,
	} {
		if IsID(n) != want {
			t.Errorf("P3: IsID(%d) = %v", n, !want)
		}
	}
}

func TestCoords(t *testing.T) {
	for n, want := range map[int]bool{
		math.MinInt: false, -api.MaxCoord - 1: false, -api.MaxCoord: true, -1: true, 0: true,
		api.MaxCoord: true, api.MaxCoord + 1: false, 1 << 32: false, math.MaxInt: false,
	} {
		if IsCoord(n) != want {
			t.Errorf("P3: IsCoord(%d) = %v", n, !want)
		}
	}
}

func TestOrder(t *testing.T) {
	inOrder := []api.Point{
		{ID: 9, X: -api.MaxCoord, Y: api.MaxCoord},
		{ID: 9, X: -1, Y: 5},
		{ID: 3, X: 0, Y: -api.MaxCoord},
		{ID: 1, X: 0, Y: -2},
		{ID: 2, X: 0, Y: -2},
		{ID: 10, X: 0, Y: -2},
		{ID: 1, X: 0, Y: 7},
		{ID: 1, X: api.MaxCoord, Y: -api.MaxCoord},
	}
	for i, a := range inOrder {
		for k, b := range inOrder {
			got := Compare(a, b)
			if (got < 0) != (i < k) || (got > 0) != (i > k) {
				t.Errorf("P3: Compare(%v, %v) = %d", a, b, got)
			}
		}
	}
}

func TestBoxes(t *testing.T) {
	one := BoxOf(api.Point{ID: 1, X: -3, Y: 8})
	if one != (Box{-3, 8, -3, 8}) {
		t.Errorf("P3: the box of a point is %v", one)
	}
	if got := one.Join(one); got != one {
		t.Errorf("P3: a box joined to itself is %v", got)
	}
	other := Box{-9, 2, 4, 5}
	want := Box{-9, 2, 4, 8}
	if got := one.Join(other); got != want {
		t.Errorf("P3: %v and %v join to %v", one, other, got)
	}
	if got := other.Join(one); got != want {
		t.Errorf("P3: %v and %v join to %v", other, one, got)
	}
}

func TestBoxesThatMayBe(t *testing.T) {
	const most = api.MaxCoord
	for b, want := range map[Box]bool{
		{0, 0, 0, 0}:                     true,
		{-1, -2, 3, 4}:                   true,
		{-most, -most, most, most}:       true,
		{most, most, most, most}:         true,
		{-most, -most, -most, -most}:     true,
		{1, 0, 0, 0}:                     false,
		{0, 1, 0, 0}:                     false,
		{most, 0, -most, 0}:              false,
		{-most - 1, 0, 0, 0}:             false,
		{0, -most - 1, 0, 0}:             false,
		{0, 0, most + 1, 0}:              false,
		{0, 0, 0, most + 1}:              false,
		{most + 1, 0, most + 1, 0}:       false,
		{0, most + 1, 0, most + 1}:       false,
		{-most - 1, 0, -most - 1, 0}:     false,
		{0, -most - 1, 0, -most - 1}:     false,
		{math.MinInt, 0, 0, 0}:           false,
		{0, 0, 0, math.MaxInt}:           false,
		{1 << 32, 0, 1 << 32, 0}:         false,
		{0, -1 << 32, 0, 0}:              false,
		{math.MaxInt, 0, math.MinInt, 0}: false,
	} {
		if b.MayBe() != want {
			t.Errorf("P4: %v.MayBe() = %v", b, !want)
		}
	}
}

func TestBoxesThatMeet(t *testing.T) {
	// against every place of a small field
	var all []Box
	for minX := range 4 {
		for minY := range 4 {
			for maxX := minX; maxX < 4; maxX++ {
				for maxY := minY; maxY < 4; maxY++ {
					all = append(all, Box{minX - 2, minY - 2, maxX - 2, maxY - 2})
				}
			}
		}
	}
	has := func(b Box, x, y int) bool { return x >= b.MinX && x <= b.MaxX && y >= b.MinY && y <= b.MaxY }
	for _, a := range all {
		for _, b := range all {
			want := false
			for place := range 16 {
				x, y := place%4-2, place/4-2
				want = want || has(a, x, y) && has(b, x, y)
			}
			if a.Meets(b) != want {
				t.Fatalf("P4: %v.Meets(%v) = %v", a, b, !want)
			}
		}
	}
}

func TestDistances(t *testing.T) {
	const most = api.MaxCoord
	for _, c := range []struct {
		b    Box
		x, y int
		want int64
	}{
		{Box{5, 5, 5, 5}, 6, 6, 2},
		{Box{9, 0, 9, 0}, 6, 6, 45},
		{Box{20, 20, 20, 20}, 6, 6, 392},
		{Box{0, -5, 9, 5}, 4, 4, 0},
		{Box{0, -5, 9, 5}, 0, -5, 0},
		{Box{0, -5, 9, 5}, 9, 5, 0},
		{Box{0, -5, 9, 5}, -3, 0, 9},
		{Box{0, -5, 9, 5}, 13, 0, 16},
		{Box{0, -5, 9, 5}, 4, 7, 4},
		{Box{0, -5, 9, 5}, 4, -10, 25},
		{Box{0, -5, 9, 5}, -3, -9, 25},
		{Box{0, -5, 9, 5}, 10, 7, 5},
		{Box{most, most, most, most}, -most, -most, 8000000000000},
		{Box{-most, -most, -most, -most}, most, most, 8000000000000},
		{Box{-most, -most, most, most}, most, -most, 0},
	} {
		if got := c.b.Distance(c.x, c.y); got != c.want {
			t.Errorf("P4: the distance of %v from %d, %d = %d, want %d", c.b, c.x, c.y, got, c.want)
		}
	}
}
