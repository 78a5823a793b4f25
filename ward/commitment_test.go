package ward_test

import (
	"crypto/sha256"
	"encoding/binary"
	"fmt"
	"slices"
	"testing"

	"ward/api"
	"ward/ward"
)

func digestOf(text string) [32]byte { return sha256.Sum256([]byte(text)) }

// fourBytes: numbers, the highest byte first.
func fourBytes(numbers ...int) string {
	var text []byte
	for _, n := range numbers {
		text = binary.BigEndian.AppendUint32(text, uint32(int32(n)))
	}
	return string(text)
}

// textOf: of the tree over points in order, made from the root down; width is how many points it may have (4, 16, 64 ..).
func textOf(points []api.Point, width int) string {
	if width == 4 {
		text := string([]byte{1, byte(len(points))})
		for _, p := range points {
			text += fourBytes(p.ID, p.X, p.Y)
		}
		return text
	}
	text, children := "", 0
	for part := range slices.Chunk(points, width/4) {
		least, greatest := part[0], part[0]
		for _, p := range part {
			least.X, greatest.X = min(least.X, p.X), max(greatest.X, p.X)
			least.Y, greatest.Y = min(least.Y, p.Y), max(greatest.Y, p.Y)
		}
		d := digestOf(textOf(part, width/4))
		text += fourBytes(least.X, least.Y, greatest.X, greatest.Y, len(part)) + string(d[:])
		children++
	}
	return string([]byte{2, byte(children)}) + text
}

// committed: the commitment to points in order.
func committed(points []api.Point) api.Commitment {
	width := 4
	for width < len(points) {
		width *= 4
	}
	return api.Commitment{Root: digestOf(textOf(points, width)), Count: len(points)}
}

func TestCommitmentOfNone(t *testing.T) {
	want := api.Commitment{Root: digestOf("\x01\x00"), Count: 0}
	m := ward.New()
	if got := m.Commitment(); got != want {
		t.Errorf("P3: the commitment of no points is %x", got)
	}
	m.Insert(api.Point{ID: 1})
	m.Delete(1)
	if got := m.Commitment(); got != want {
		t.Errorf("P3: the commitment of no points any more is %x", got)
	}
}

func TestCommitmentOfTheExample(t *testing.T) {
	first := digestOf("\x01\x04" + fourBytes(1, 0, 0, 3, 5, -5, 2, 5, 5, 4, 9, 0))
	second := digestOf("\x01\x01" + fourBytes(5, 20, 20))
	root := "\x02\x02" +
		fourBytes(0, -5, 9, 5, 4) + string(first[:]) +
		fourBytes(20, 20, 20, 20, 1) + string(second[:])
	want := api.Commitment{Root: digestOf(root), Count: 5}
	if got := filled(t, five).Commitment(); got != want {
		t.Errorf("P3: the commitment of the example is %x, want %x", got, want)
	}
}

func TestCommitmentOfEveryCount(t *testing.T) {
	// 4 and 5, 16 and 17, 64 and 65 are where the tree grows; 150 is MaxPoints
	points := scattered(api.MaxPoints, 3)
	m := ward.New()
	for i := 0; ; i++ {
		holds(t, fmt.Sprint("P3: points: ", i), m, sorted(points[:i]))
		if i == len(points) {
			break
		}
		m.Insert(points[i])
	}
}

func TestCommitmentHangsOnThePointsAlone(t *testing.T) {
	for _, n := range []int{2, 4, 5, 16, 17, 64, 65, 149, 150} {
		points := scattered(n, uint32(n))
		want := filled(t, points).Commitment()
		slices.Reverse(points)
		if got := filled(t, points).Commitment(); got != want {
			t.Errorf("P3: the commitment to %d points hangs on which came first", n)
		}
		m := filled(t, points)
		for _, p := range points[:n/2] {
			m.Delete(p.ID)
		}
		for _, p := range points[:n/2] {
			m.Insert(p)
		}
		if got := m.Commitment(); got != want {
			t.Errorf("P3: the commitment to %d points hangs on what was there before", n)
		}
	}
}

func TestCommitmentHangsOnEveryPart(t *testing.T) {
	seen := map[api.Commitment]int{filled(t, five).Commitment(): -1}
	for i := range five {
		for part := range 3 {
			l := slices.Clone(five)
			switch part {
			case 0:
				l[i].ID += 100
			case 1:
				l[i].X++
			case 2:
				l[i].Y--
			}
			c := filled(t, l).Commitment()
			if _, ok := seen[c]; ok {
				t.Errorf("P3: part %d of point %d is not in the commitment", part, i)
			}
			seen[c] = i
		}
	}
}
