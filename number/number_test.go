package number

import "testing"

func TestHighestFirst(t *testing.T) {
	for _, c := range []struct {
		n    uint32
		want string
	}{
		{0, "\x00\x00\x00\x00"},
		{1, "\x00\x00\x00\x01"},
		{0x01020304, "\x01\x02\x03\x04"},
		{1<<32 - 1, "\xff\xff\xff\xff"},
		{1<<32 - 1000000, "\xff\xf0\xbd\xc0"},
	} {
		if got := string(Append([]byte("ab"), c.n)); got != "ab"+c.want {
			t.Errorf("Append(ab, %d) = %q, want ab and %q", c.n, got, c.want)
		}
		if got := At("ab"+c.want+"c", 2); got != c.n {
			t.Errorf("At(%q) = %d, want %d", c.want, got, c.n)
		}
	}
}
