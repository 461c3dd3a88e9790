package sums

import "testing"

func TestOf(t *testing.T) {
	for _, c := range []struct {
		s    string
		want int
	}{
		{"", 2166136261}, {"a", 3826002220}, {"foobar", 0xbf9cf968},
		{"\x00", 84696351}, {"\xff", 2047574606},
	} {
		if got := Of(c.s); got != c.want {
			t.Errorf("Of(%q) = %d, want %d", c.s, got, c.want)
		}
	}
}
