package numbers

import "testing"

func TestWriteAndRead(t *testing.T) {
	for _, c := range []struct {
		number, size int
		want         string
	}{
		{0, 1, "\x00"}, {255, 1, "\xff"}, {258, 2, "\x02\x01"}, {65535, 2, "\xff\xff"}, {1, 2, "\x01\x00"}, {256, 2, "\x00\x01"},
		{0, 4, "\x00\x00\x00\x00"}, {4294967295, 4, "\xff\xff\xff\xff"}, {2166136261, 4, "\xc5\x9d\x1c\x81"}, {0, 0, ""},
	} {
		if got := Write(c.number, c.size); got != c.want {
			t.Errorf("Write(%d, %d) = %q, want %q", c.number, c.size, got, c.want)
		}
		if got := Read(c.want); got != c.number {
			t.Errorf("Read(%q) = %d, want %d", c.want, got, c.number)
		}
	}
}
