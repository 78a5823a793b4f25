// Package plane: points, their order, boxes and distances.
package plane

import (
	"cmp"

	"ward/api"
)

// Box: its least and greatest X and Y belong to it.
type Box struct {
	MinX, MinY, MaxX, MaxY int
}

// IsID: a point may have that id.
func IsID(n int) bool {
	return 1 <= n && n <= api.MaxID
}

// IsCoord: a place may have that coordinate.
func IsCoord(n int) bool {
	return -api.MaxCoord <= n && n <= api.MaxCoord
}

// Compare puts points in order: below 0, if a comes ahead of b.
func Compare(a, b api.Point) int {
	return cmp.Or(cmp.Compare(a.X, b.X), cmp.Compare(a.Y, b.Y), cmp.Compare(a.ID, b.ID))
}

// BoxOf is the smallest box that has the point.
func BoxOf(p api.Point) Box {
	return Box{MinX: p.X, MinY: p.Y, MaxX: p.X, MaxY: p.Y}
}

// Join is the smallest box that has both.
func (b Box) Join(other Box) Box {
	return Box{
		MinX: min(b.MinX, other.MinX),
		MinY: min(b.MinY, other.MinY),
		MaxX: max(b.MaxX, other.MaxX),
		MaxY: max(b.MaxY, other.MaxY),
	}
}

// MayBe: its least are not above its greatest, and all of them are coordinates.
func (b Box) MayBe() bool {
	return IsCoord(b.MinX) && IsCoord(b.MinY) && IsCoord(b.MaxX) && IsCoord(b.MaxY) &&
		b.MinX <= b.MaxX && b.MinY <= b.MaxY
}

// Meets: the boxes have a place in common.
func (b Box) Meets(other Box) bool {
	return b.MinX <= other.MaxX && other.MinX <= b.MaxX &&
		b.MinY <= other.MaxY && other.MinY <= b.MaxY
}

// Distance is that of the box's nearest place from the place x, y. It may be too great for 32 bits.
func (b Box) Distance(x, y int) int64 {
	across := int64(max(b.MinX-x, 0, x-b.MaxX))
	along := int64(max(b.MinY-y, 0, y-b.MaxY))
	return across*across + along*along
}
