package plane

import (
	"math"
	"testing"

	"ward/api"
)

func TestIDs(t *testing.T) {
	for n, want := range map[int]bool{
		math.MinInt: false, -1: false, 0: false, 1: true, 2: true,
		api.MaxID - 1: true, api.MaxID: true, api.MaxID + 1: false, 1<<32 + 1: false, math.MaxInt: false,
	} {
		if IsID(n) != want {
			t.Errorf("P3: IsID(%d) = %v", n, !want)
		}
	}
}

func TestCoords(t *testing.T) {
	for n, want := range map[int]bool{
		math.MinInt: false, -api.MaxCoord - 1: false, -api.MaxCoord: true, -1: true, 0: true,
		api.MaxCoord: true, api.MaxCoord + 1: false, 1 << 32: false, math.MaxInt: false,
	} {
		if IsCoord(n) != want {
			t.Errorf("P3: IsCoord(%d) = %v", n, !want)
		}
	}
}

func TestOrder(t *testing.T) {
	inOrder := []api.Point{
		{ID: 9, X: -api.MaxCoord, Y: api.MaxCoord},
		{ID: 9, X: -1, Y: 5},
		{ID: 3, X: 0, Y: -api.MaxCoord},
		{ID: 1, X: 0, Y: -2},
		{ID: 2, X: 0, Y: -2},
		{ID: 10, X: 0, Y: -2},
		{ID: 1, X: 0, Y: 7},
		{ID: 1, X: api.MaxCoord, Y: -api.MaxCoord},
	}
	for i, a := range inOrder {
		for k, b := range inOrder {
			got := Compare(a, b)
			if (got < 0) != (i < k) || (got > 0) != (i > k) {
				t.Errorf("P3: Compare(%v, %v) = %d", a, b, got)
			}
		}
	}
}

func TestBoxes(t *testing.T) {
	one := BoxOf(api.Point{ID: 1, X: -3, Y: 8})
	if one != (Box{-3, 8, -3, 8}) {
		t.Errorf("P3: the box of a point is %v", one)
	}
	if got := one.Join(one); got != one {
		t.Errorf("P3: a box joined to itself is %v", got)
	}
	other := Box{-9, 2, 4, 5}
	want := Box{-9, 2, 4, 8}
	if got := one.Join(other); got != want {
		t.Errorf("P3: %v and %v join to %v", one, other, got)
	}
	if got := other.Join(one); got != want {
		t.Errorf("P3: %v and %v join to %v", other, one, got)
	}
}
