// Package ward: what is asked of a map of points, with a proof that it is all and nothing else: see DOC.md.
package ward

import (
	"slices"

	"ward/api"
	"ward/digest"
	"ward/plane"
	"ward/query"
	"ward/tree"
)

// Digest of a text (P3).
func Digest(text string) [32]byte { return digest.Of(text) }

// Map: points.
type Map struct {
	points []api.Point // in order
}

// New makes a map without points.
func New() *Map { return &Map{} }

// Insert puts a point into the map (P3).
func (m *Map) Insert(p api.Point) api.Errno {
	switch {
	case !plane.IsID(p.ID):
		return api.ErrID
	case !plane.IsCoord(p.X) || !plane.IsCoord(p.Y):
		return api.ErrRange
	case m.find(p.ID) >= 0:
		return api.ErrTaken
	case len(m.points) >= api.MaxPoints:
		return api.ErrLimit
	}
	at, _ := slices.BinarySearchFunc(m.points, p, plane.Compare)
	m.points = slices.Insert(m.points, at, p)
	return api.OK
}

// Delete takes a point out of it (P3).
func (m *Map) Delete(id int) api.Errno {
	at := m.find(id)
	if at < 0 {
		return api.ErrUnknown
	}
	m.points = slices.Delete(m.points, at, at+1)
	return api.OK
}

// find tells where the point of that id stands, or -1.
func (m *Map) find(id int) int {
	return slices.IndexFunc(m.points, func(p api.Point) bool { return p.ID == id })
}

// Points tells all, in order (P3).
func (m *Map) Points() []api.Point {
	all := make([]api.Point, len(m.points))
	copy(all, m.points)
	return all
}

// Commitment tells that to the points (P3).
func (m *Map) Commitment() api.Commitment {
	return commitmentTo(tree.Build(m.points))
}

func commitmentTo(root tree.Node) api.Commitment {
	return api.Commitment{Root: root.Digest, Count: root.Count}
}

// Answer answers a query (P4).
func (m *Map) Answer(q api.Query) ([]api.Point, api.Errno) {
	if !query.MayBe(q) {
		return nil, api.ErrQuery
	}
	return query.Answer(tree.Build(m.points), q), api.OK
}

// Prove gives the proof of an answer (P4).
func (m *Map) Prove(q api.Query) (string, api.Errno) {
	if !query.MayBe(q) {
		return "", api.ErrQuery
	}
	root := tree.Build(m.points)
	answer := query.Answer(root, q)
	mustShow := func(box plane.Box) bool { return query.MustShow(q, answer, box) }
	return tree.Proof(root, mustShow), api.OK
}

// Verify takes the answer out of a proof, or refuses it (P5). Each error is looked for in the whole proof ahead of the next, so that the one named first is told, wherever in the text it stands.
func Verify(c api.Commitment, q api.Query, proof string) ([]api.Point, api.Errno) {
	if !query.MayBe(q) {
		return nil, api.ErrQuery
	}
	root, ok := tree.Read(proof)
	switch {
	case !ok:
		return nil, api.ErrForm
	case !tree.BoxesHold(root):
		return nil, api.ErrBox
	case !tree.DigestsHold(root) || commitmentTo(root) != c:
		return nil, api.ErrRoot
	}
	answer := query.Answer(root, q)
	switch {
	case !query.LacksNone(root, q, answer):
		return nil, api.ErrHidden
	case !query.WastesNone(root, q, answer):
		return nil, api.ErrWaste
	}
	return answer, api.OK
}
