package counts

import "testing"

func TestWriteAndRead(t *testing.T) {
	for _, c := range []struct {
		count int
		want  string
	}{
		{0, "\x00"}, {1, "\x01"}, {127, "\x7f"}, {128, "\x80\x01"}, {129, "\x81\x01"}, {255, "\xff\x01"}, {256, "\x80\x02"}, {300, "\xac\x02"}, {16256, "\x80\x7f"}, {16383, "\xff\x7f"},
	} {
		if got := Write(c.count); got != c.want {
			t.Errorf("Write(%d) = %q, want %q", c.count, got, c.want)
		}
		for _, around := range []string{"", "\x00", "\x85"} {
			at := len(around)
			n, next, ok := Read(around+c.want+around, at)
			if n != c.count || next != at+len(c.want) || !ok {
				t.Errorf("Read(%q, %d) = %d, %d, %v", around+c.want+around, at, n, next, ok)
			}
		}
	}
}

func TestEveryCountIsReadBack(t *testing.T) {
	for count := 0; count <= 16383; count++ {
		s := Write(count)
		if n, next, ok := Read(s, 0); n != count || next != len(s) || !ok {
			t.Fatalf("Read(%q) = %d, %d, %v, want %d", s, n, next, ok, count)
		}
	}
}

// Of all pairs of bytes each that is read as a count in two bytes is the one that is written.
func TestPairsThatAreNoCounts(t *testing.T) {
	for first := 128; first < 256; first++ {
		for second := 0; second < 256; second++ {
			s := string([]byte{byte(first), byte(second)})
			n, next, ok := Read(s, 0)
			if ok != (second >= 1 && second <= 127) {
				t.Errorf("Read(%q) = %d, %d, %v", s, n, next, ok)
			}
			if ok && Write(n) != s || !ok && (n != 0 || next != 0) {
				t.Errorf("Read(%q) = %d, %d, %v", s, n, next, ok)
			}
		}
	}
}

func TestNoCounts(t *testing.T) {
	for _, c := range []struct {
		s  string
		at int
	}{{"", 0}, {"\x80", 0}, {"\xff", 0}, {"\x01", 1}, {"\x01", 2}, {"\x01", -1}, {"\x01", 1<<63 - 1}, {"\x01", -1 << 63}, {"\x01\x80", 1}} {
		if n, next, ok := Read(c.s, c.at); n != 0 || next != 0 || ok {
			t.Errorf("Read(%q, %d) = %d, %d, %v", c.s, c.at, n, next, ok)
		}
	}
	for _, count := range []int{-1, 16384, -1 << 63, 1<<63 - 1} {
		if s := Write(count); s != "" {
			t.Errorf("Write(%d) = %q", count, s)
		}
	}
}
