package digest

import (
	"crypto/sha256"
	"encoding/hex"
	"strings"
	"testing"
)

// mixed: a text of that length that has all kinds of bytes.
func mixed(length int) string {
	text := make([]byte, length)
	for i := range text {
		text[i] = byte(i*i*31 + i*7 + length)
	}
	return string(text)
}

func check(t *testing.T, text string) {
	t.Helper()
	if got, want := Of(text), sha256.Sum256([]byte(text)); got != want {
		t.Errorf("P3: the digest of %d bytes (%.20q..) is %x, want %x", len(text), text, got, want)
	}
}

func TestKnownDigests(t *testing.T) {
	for _, c := range []struct{ text, want string }{
		{"", "e3b0c44298fc1c149afbf4c8996fb92427ae41e4649b934ca495991b7852b855"},
		{"abc", "ba7816bf8f01cfea414140de5dae2223b00361a396177a9cb410ff61f20015ad"},
		{"abcdbcdecdefdefgefghfghighijhijkijkljklmklmnlmnomnopnopq", "248d6a61d20638b8e5c026930c3e6039a33ce45964ff2167f6ecedd419db06c1"},
	} {
		got := Of(c.text)
		if hex.EncodeToString(got[:]) != c.want {
			t.Errorf("P3: Digest(%q) = %x, want %s", c.text, got, c.want)
		}
	}
}

func TestAllShortLengths(t *testing.T) {
	// 55, 56, 63, 64, 119, 120, 127, 128 and so on are where the padding takes a block more
	for length := range 520 {
		check(t, mixed(length))
		check(t, strings.Repeat("\x00", length))
		check(t, strings.Repeat("\x80", length))
		check(t, strings.Repeat("\xff", length))
	}
}

func TestLongTexts(t *testing.T) {
	for _, length := range []int{8191, 8192, 1000000, 1<<20 + 55, 1<<20 + 56} {
		check(t, mixed(length))
	}
}

func TestPadding(t *testing.T) {
	for length := range 300 {
		p := padding(length)
		if (length+len(p))%blockSize != 0 || len(p) > blockSize+8 || p[0] != 128 {
			t.Errorf("P3: the padding of %d bytes is %q", length, p)
		}
	}
}

func TestPaddingTellsTheLengthInBits(t *testing.T) {
	for _, c := range []struct {
		length int
		end    string
	}{
		{0, "\x00\x00\x00\x00\x00\x00\x00\x00"},
		{1, "\x00\x00\x00\x00\x00\x00\x00\x08"},
		{32, "\x00\x00\x00\x00\x00\x00\x01\x00"},
		{1<<29 - 1, "\x00\x00\x00\x00\xff\xff\xff\xf8"},
		{1 << 29, "\x00\x00\x00\x01\x00\x00\x00\x00"},
		{1<<40 + 3, "\x00\x00\x08\x00\x00\x00\x00\x18"},
	} {
		if p := padding(c.length); !strings.HasSuffix(p, c.end) {
			t.Errorf("P3: the padding of %d bytes ends with %q, want %q", c.length, p[len(p)-8:], c.end)
		}
	}
}

func TestEqualTextsHaveEqualDigests(t *testing.T) {
	seen := map[[32]byte]int{}
	for length := range 300 {
		d := Of(mixed(length))
		if d != Of(strings.Clone(mixed(length))) {
			t.Errorf("P2: the digest of %d bytes is not the same twice", length)
		}
		if other, ok := seen[d]; ok {
			t.Errorf("P3: %d and %d bytes have one digest", other, length)
		}
		seen[d] = length
	}
}
