package ward_test

import (
	"fmt"
	"math"
	"slices"
	"testing"

	"ward/api"
	"ward/ward"
)

const most = api.MaxCoord

// everywhere: a window of all places.
var everywhere = window(-most, -most, most, most)

func window(minX, minY, maxX, maxY int) api.Query {
	return api.Query{Kind: api.Window, MinX: minX, MinY: minY, MaxX: maxX, MaxY: maxY}
}

func near(x, y, k int) api.Query {
	return api.Query{Kind: api.Near, X: x, Y: y, K: k}
}

// far: the distance of two places.
func far(x, y, otherX, otherY int) int {
	return (x-otherX)*(x-otherX) + (y-otherY)*(y-otherY)
}

// asked: the answer, by going through all points.
func asked(points []api.Point, q api.Query) []api.Point {
	l := sorted(points)
	if q.Kind == api.Window {
		return slices.DeleteFunc(l, func(p api.Point) bool {
			return p.X < q.MinX || p.X > q.MaxX || p.Y < q.MinY || p.Y > q.MaxY
		})
	}
	slices.SortFunc(l, func(a, b api.Point) int {
		if d := far(a.X, a.Y, q.X, q.Y) - far(b.X, b.Y, q.X, q.Y); d != 0 {
			return d
		}
		return a.ID - b.ID
	})
	return l[:min(q.K, len(l))]
}

// proofOf: of the tree over points in order, made from the root down; width as for textOf.
func proofOf(points []api.Point, width int, q api.Query, answer []api.Point) string {
	text := textOf(points, width)
	if width == 4 {
		return text
	}
	proof := text[:2]
	rest := text[2:]
	for part := range slices.Chunk(points, width/4) {
		proof += rest[:52]
		rest = rest[52:]
		if isShown(part, q, answer) {
			proof += "\x01" + proofOf(part, width/4, q, answer)
		} else {
			proof += "\x00"
		}
	}
	return proof
}

// isShown: the child that has these points must be shown.
func isShown(part []api.Point, q api.Query, answer []api.Point) bool {
	least, greatest := part[0], part[0]
	for _, p := range part {
		least.X, greatest.X = min(least.X, p.X), max(greatest.X, p.X)
		least.Y, greatest.Y = min(least.Y, p.Y), max(greatest.Y, p.Y)
	}
	if q.Kind == api.Window {
		return max(least.X, q.MinX) <= min(greatest.X, q.MaxX) && max(least.Y, q.MinY) <= min(greatest.Y, q.MaxY)
	}
	if len(answer) < q.K {
		return true
	}
	x, y := min(max(q.X, least.X), greatest.X), min(max(q.Y, least.Y), greatest.Y)
	last := answer[len(answer)-1]
	return far(x, y, q.X, q.Y) <= far(last.X, last.Y, q.X, q.Y)
}

// proved: the proof, of points in whatever order.
func proved(points []api.Point, q api.Query) string {
	width := 4
	for width < len(points) {
		width *= 4
	}
	return proofOf(sorted(points), width, q, asked(points, q))
}

// tells: the map of these points gives the answer and the proof that the second reckoning has.
func tells(t *testing.T, m *ward.Map, points []api.Point, q api.Query) {
	t.Helper()
	if got, e := m.Answer(q); e != api.OK || !slices.Equal(got, asked(points, q)) {
		t.Errorf("P4: of %d points: Answer(%+v) = %v, %d, want %v", len(points), q, got, e, asked(points, q))
	}
	if got, e := m.Prove(q); e != api.OK || got != proved(points, q) {
		t.Errorf("P4: of %d points: Prove(%+v) = %q, %d, want %q", len(points), q, got, e, proved(points, q))
	}
}

// refuses: the map names ErrQuery, and gives nothing beside it.
func refuses(t *testing.T, m *ward.Map, q api.Query) {
	t.Helper()
	if l, e := m.Answer(q); len(l) != 0 || e != api.ErrQuery {
		t.Errorf("P4: Answer(%+v) = %v, %d", q, l, e)
	}
	if proof, e := m.Prove(q); proof != "" || e != api.ErrQuery {
		t.Errorf("P4: Prove(%+v) = %q, %d", q, proof, e)
	}
}

// answersIDs: the answer has these ids, in that order.
func answersIDs(t *testing.T, m *ward.Map, q api.Query, want ...int) {
	t.Helper()
	l, e := m.Answer(q)
	var ids []int
	for _, p := range l {
		ids = append(ids, p.ID)
	}
	if e != api.OK || !slices.Equal(ids, want) {
		t.Errorf("P4: Answer(%+v) = %v, %d, want %v", q, l, e, want)
	}
}

func TestTheExamples(t *testing.T) {
	m := filled(t, five)
	first := "\x01\x04" + fourBytes(1, 0, 0, 3, 5, -5, 2, 5, 5, 4, 9, 0)
	second := "\x01\x01" + fourBytes(5, 20, 20)
	firstDigest, secondDigest := digestOf(first), digestOf(second)
	firstHead := fourBytes(0, -5, 9, 5, 4) + string(firstDigest[:])
	secondHead := fourBytes(20, 20, 20, 20, 1) + string(secondDigest[:])
	firstAlone := "\x02\x02" + firstHead + "\x01" + first + secondHead + "\x00"
	both := "\x02\x02" + firstHead + "\x01" + first + secondHead + "\x01" + second
	for _, c := range []struct {
		q     api.Query
		proof string
		ids   []int
	}{
		{window(0, 0, 6, 6), firstAlone, []int{1, 2}},
		{near(6, 6, 2), firstAlone, []int{2, 4}},
		{near(0, 0, 5), both, []int{1, 2, 3, 4, 5}},
		{window(-2, -2, -1, -1), "\x02\x02" + firstHead + "\x00" + secondHead + "\x00", nil},
		{window(10, 6, 20, 20), "\x02\x02" + firstHead + "\x00" + secondHead + "\x01" + second, []int{5}},
		// at 173 are the first child's box and the point that is nearest
		{near(22, 7, 1), both, []int{5}},
		{near(23, 7, 1), "\x02\x02" + firstHead + "\x00" + secondHead + "\x01" + second, []int{5}},
	} {
		answersIDs(t, m, c.q, c.ids...)
		if got, e := m.Prove(c.q); got != c.proof || e != api.OK {
			t.Errorf("P4: Prove(%+v) = %q, %d, want %q", c.q, got, e, c.proof)
		}
	}
}

func TestOfNoPoint(t *testing.T) {
	m := ward.New()
	for _, q := range []api.Query{window(0, 0, 0, 0), window(-most, -most, most, most), window(1, 1, 2, 2), near(0, 0, 1), near(5, 5, api.MaxK), near(-most, most, api.MaxK)} {
		answersIDs(t, m, q)
		if proof, e := m.Prove(q); proof != "\x01\x00" || e != api.OK {
			t.Errorf("P4: Prove(%+v) of no point = %q, %d", q, proof, e)
		}
	}
	refuses(t, m, near(0, 0, 0))
	refuses(t, m, window(1, 0, 0, 0))
}

func TestQueriesThatMayNotBe(t *testing.T) {
	maps := []*ward.Map{filled(t, five), filled(t, scattered(3, 2)), filled(t, scattered(api.MaxPoints, 2))}
	for _, q := range []api.Query{
		{Kind: -1, K: 1}, {Kind: 2, K: 1}, {Kind: math.MinInt, K: 1}, {Kind: math.MaxInt, K: 1}, {Kind: 1 << 32, K: 1},
		near(0, 0, 0), near(0, 0, -1), near(0, 0, api.MaxK+1), near(0, 0, math.MaxInt), near(0, 0, math.MinInt),
		near(most+1, 0, 1), near(-most-1, 0, 1), near(0, most+1, 1), near(0, -most-1, 1), near(math.MinInt, math.MaxInt, 1),
		window(1, 0, 0, 0), window(0, 1, 0, 0), window(most, most, -most, -most),
		window(-most-1, 0, 0, 0), window(0, -most-1, 0, 0), window(0, 0, most+1, 0), window(0, 0, 0, most+1),
		window(most+1, 0, most+1, 0), window(0, -most-1, 0, -most-1), window(math.MinInt, math.MinInt, math.MaxInt, math.MaxInt),
	} {
		for _, m := range maps {
			refuses(t, m, q)
		}
	}
	holds(t, "P1: behind refused queries", maps[0], fiveInOrder)
}

func TestWhatTheKindDoesNotNeed(t *testing.T) {
	m := filled(t, five)
	for _, n := range []int{math.MinInt, -most - 1, -1, most + 1, math.MaxInt} {
		q := window(0, 0, 6, 6)
		q.X, q.Y, q.K = n, -n, n
		tells(t, m, five, q)
		answersIDs(t, m, q, 1, 2)
		q = near(6, 6, 2)
		q.MinX, q.MinY, q.MaxX, q.MaxY = n, n, -n, -n
		tells(t, m, five, q)
		answersIDs(t, m, q, 2, 4)
	}
}

func TestWindowsAtTheEdges(t *testing.T) {
	corners := []api.Point{{ID: 1, X: -most, Y: -most}, {ID: 2, X: -most, Y: most}, {ID: 3, X: most, Y: -most}, {ID: 4, X: most, Y: most}, {ID: 5}}
	m := filled(t, corners)
	for _, c := range []struct {
		q   api.Query
		ids []int
	}{
		{window(-most, -most, most, most), []int{1, 2, 5, 3, 4}},
		{window(-most, -most, -most, -most), []int{1}},
		{window(most, most, most, most), []int{4}},
		{window(-most, -most, -most, most), []int{1, 2}},
		{window(-most+1, -most, most, most), []int{5, 3, 4}},
		{window(-most, -most+1, most, most), []int{2, 5, 4}},
		{window(-most, -most, most-1, most), []int{1, 2, 5}},
		{window(-most, -most, most, most-1), []int{1, 5, 3}},
		{window(0, 0, 0, 0), []int{5}},
		{window(1, 0, 1, 0), nil},
		{window(0, 1, 0, 1), nil},
	} {
		answersIDs(t, m, c.q, c.ids...)
		tells(t, m, corners, c.q)
	}
}

func TestGreatDistances(t *testing.T) {
	// their order would be another one in 32 bits
	points := []api.Point{{ID: 1, X: 65536}, {ID: 2, X: 3}, {ID: 3, X: 65536, Y: 65536}, {ID: 4, X: 46341}, {ID: 5, X: most, Y: most}, {ID: 6, X: 2, Y: -65536}}
	m := filled(t, points)
	answersIDs(t, m, near(0, 0, 6), 2, 4, 1, 6, 3, 5)
	answersIDs(t, m, near(-most, -most, 2), 6, 2)
	for _, x := range []int{-most, 0, most} {
		for _, y := range []int{-most, 0, most} {
			for k := 1; k <= 7; k++ {
				tells(t, m, points, near(x, y, k))
			}
		}
	}
}

func TestSameDistances(t *testing.T) {
	// all at 25 from 0, 0; in order the ids fall, and the lowest stands in the last leaf
	ring := []api.Point{{ID: 12, X: -5}, {ID: 11, X: -4, Y: -3}, {ID: 10, X: -4, Y: 3}, {ID: 9, X: -3, Y: -4}, {ID: 8, X: -3, Y: 4}, {ID: 7, Y: -5}, {ID: 6, Y: 5}, {ID: 5, X: 3, Y: -4}, {ID: 4, X: 3, Y: 4}, {ID: 3, X: 4, Y: -3}, {ID: 2, X: 4, Y: 3}, {ID: 1, X: 5}}
	m := filled(t, ring)
	for k := 1; k <= 13; k++ {
		var want []int
		for id := range min(k, 12) {
			want = append(want, id+1)
		}
		answersIDs(t, m, near(0, 0, k), want...)
		tells(t, m, ring, near(0, 0, k))
	}
	// at one place, by rising id, whatever the leaf
	var one []api.Point
	for id := range 40 {
		one = append(one, api.Point{ID: 40 - id, X: 7, Y: 7})
	}
	m = filled(t, one)
	answersIDs(t, m, near(-3, 2, 6), 1, 2, 3, 4, 5, 6)
	tells(t, m, one, near(7, 7, api.MaxK))
	// a box as far as the point, and in it the point of the lower id
	two := []api.Point{{ID: 11, X: -9}, {ID: 12, X: -8}, {ID: 13, X: -7}, {ID: 14, X: -6}, {ID: 2, X: 6}, {ID: 15, X: 7}}
	m = filled(t, two)
	answersIDs(t, m, near(0, 0, 1), 2)
	answersIDs(t, m, near(0, 0, 2), 2, 14)
	tells(t, m, two, near(0, 0, 1))
}

func TestKAndTheNumberOfPoints(t *testing.T) {
	for _, n := range []int{0, 1, 4, 5, 16, 17, 19, 20, 21, api.MaxPoints} {
		points := scattered(n, 4)
		m := filled(t, points)
		for k := 1; k <= api.MaxK; k++ {
			l, e := m.Answer(near(1, 1, k))
			if e != api.OK || len(l) != min(k, n) {
				t.Errorf("P4: Near of K %d of %d points has %d, %d", k, n, len(l), e)
			}
			tells(t, m, points, near(1, 1, k))
		}
	}
}

func TestEveryCount(t *testing.T) {
	points := scattered(api.MaxPoints, 9)
	m := ward.New()
	for i := 0; ; i++ {
		for _, q := range []api.Query{
			near(0, 0, 1), near(-8, 3, 7), near(30, -30, api.MaxK), near(-1, 2, 4),
			window(-8, -4, 7, 3), window(-3, -1, 2, 1), window(0, 0, 0, 0), window(20, 20, 30, 30),
		} {
			tells(t, m, points[:i], q)
		}
		if i == len(points) {
			break
		}
		m.Insert(points[i])
	}
}

func TestManyQueries(t *testing.T) {
	seed := uint32(11)
	draw := func(n int) int {
		seed = seed*1664525 + 1013904223
		return int(seed>>8) % n
	}
	for round := range 40 {
		field := []int{4, 30, 1000, 2*most + 1}[round%4]
		points := scattered(draw(api.MaxPoints+1), seed)
		for i := range points {
			points[i].X, points[i].Y = draw(field)-field/2, draw(field)-field/2
		}
		m := filled(t, points)
		for range 25 {
			x, y := draw(field)-field/2, draw(field)-field/2
			tells(t, m, points, near(x, y, 1+draw(api.MaxK)))
			tells(t, m, points, window(x, y, min(x+draw(field), most), min(y+draw(field), most)))
		}
	}
}

func TestAnswersFollowTheMap(t *testing.T) {
	points := scattered(40, 10)
	m := filled(t, points)
	for len(points) > 0 {
		if e := m.Delete(points[0].ID); e != api.OK {
			t.Fatalf("P3: Delete(%d) = %d", points[0].ID, e)
		}
		points = points[1:]
		tells(t, m, points, near(2, -1, 3))
		tells(t, m, points, window(-5, -2, 4, 2))
	}
}

func TestAnswersHangOnThePointsAlone(t *testing.T) {
	for _, n := range []int{4, 5, 17, 150} {
		points := scattered(n, 12)
		a := filled(t, points)
		slices.Reverse(points)
		b := filled(t, points)
		for _, q := range []api.Query{near(0, 0, 9), window(-4, -4, 3, 3)} {
			first, _ := a.Answer(q)
			second, _ := b.Answer(q)
			firstProof, _ := a.Prove(q)
			secondProof, _ := b.Prove(q)
			if !slices.Equal(first, second) || firstProof != secondProof {
				t.Errorf("P2: what %d points answer to %+v hangs on which came first", n, q)
			}
		}
	}
}

func TestAnswersAreNewMemory(t *testing.T) {
	for _, n := range []int{0, 1, 3, 4, 5, 16, 17, 149, 150} {
		points := scattered(n, 13)
		m := filled(t, points)
		for _, q := range []api.Query{everywhere, window(-8, -4, 0, 0), near(0, 0, 1), near(0, 0, 5), near(3, 3, api.MaxK)} {
			first, _ := m.Answer(q)
			second, _ := m.Answer(q)
			all := m.Points()
			room := slices.Clone(second[:cap(second)])
			spoil(first)
			_ = append(first[:0], scattered(n, 14)...)
			if !slices.Equal(second, asked(points, q)) || !slices.Equal(second[:cap(second)], room) {
				t.Errorf("P2: two answers to %+v of %d points share memory", q, n)
			}
			if !slices.Equal(all, sorted(points)) {
				t.Errorf("P2: an answer to %+v of %d points shares memory with that of Points", q, n)
			}
			holds(t, fmt.Sprintf("P2: behind a spoilt answer to %+v", q), m, sorted(points))
			tells(t, m, points, q)
		}
	}
}

func TestAnswersKeepWhatTheyTold(t *testing.T) {
	m := filled(t, five)
	told, _ := m.Answer(near(0, 0, 3))
	within, _ := m.Answer(window(0, -9, 9, 9))
	for _, p := range five {
		m.Delete(p.ID)
		m.Insert(api.Point{ID: p.ID, X: -p.ID})
	}
	if !slices.Equal(told, asked(five, near(0, 0, 3))) || !slices.Equal(within, fiveInOrder[:4]) {
		t.Errorf("P2: an answer changed with the map: %v, %v", told, within)
	}
}

func TestAnsweringChangesNothing(t *testing.T) {
	points := scattered(70, 15)
	m := ward.New()
	for i, p := range points {
		m.Insert(p)
		for _, q := range []api.Query{near(0, 0, 3), window(-2, -2, 5, 5), near(0, 0, 0), {Kind: 7}} {
			m.Answer(q)
			m.Prove(q)
		}
		holds(t, "P2: behind Answer and Prove", m, sorted(points[:i+1]))
	}
	for range 3 {
		tells(t, m, points, near(1, -1, 6))
		tells(t, m, points, window(-2, -2, 5, 5))
	}
	other := ward.New()
	answersIDs(t, other, near(1, -1, 6))
}

func TestNoQueryPanics(t *testing.T) {
	odd := []int{math.MinInt, -most - 1, -most, 0, 1, api.MaxK, most, most + 1, math.MaxInt}
	maps := []*ward.Map{ward.New(), filled(t, five), filled(t, scattered(65, 16))}
	for _, kind := range []int{math.MinInt, -1, api.Window, api.Near, 2, math.MaxInt} {
		for _, a := range odd {
			for _, b := range odd {
				for _, c := range odd {
					q := api.Query{Kind: kind, MinX: a, MinY: b, MaxX: c, MaxY: b, X: a, Y: b, K: c}
					for _, m := range maps {
						l, e := m.Answer(q)
						proof, proofError := m.Prove(q)
						if e != proofError || e != api.OK && e != api.ErrQuery {
							t.Fatalf("P1: %+v: Answer has %d, Prove %d", q, e, proofError)
						}
						if e != api.OK && (len(l) != 0 || proof != "") || e == api.OK && proof == "" {
							t.Fatalf("P1: %+v: %v, %q beside %d", q, l, proof, e)
						}
					}
				}
			}
		}
	}
}
