package streams

import (
	"strings"
	"testing"

	"glossary/shares"
)

func lay(t *testing.T, table string) *shares.Layout {
	l, ok := shares.Lay(table)
	if !ok {
		t.Fatalf("%q is a table", table)
	}
	return &l
}

func TestPackCloses(t *testing.T) {
	for _, c := range []struct{ backward, want string }{
		{"", "\x80"}, {"\x01", "\xc0"}, {"\x00\x01", "\xa0"},
		{"\x00\x00\x00\x00\x00\x00\x01", "\x81"}, {"\x01\x00\x00\x00\x00\x00\x00\x00", "\x01\x80"},
	} {
		if got := pack([]byte(c.backward)); got != c.want {
			t.Errorf("pack(%q) = %q, want %q", c.backward, got, c.want)
		}
	}
}

func TestCountBits(t *testing.T) {
	for _, c := range []struct {
		stream string
		want   int
	}{{"", -1}, {"\x00", -1}, {"\x80\x00", -1}, {"\x80", 0}, {"\x02", 6}, {"\x01", 7}, {"\x00\x80", 8}, {"\xff\xff", 15}} {
		if got := countBits(c.stream); got != c.want {
			t.Errorf("countBits(%q) = %d, want %d", c.stream, got, c.want)
		}
	}
}

func TestBitAt(t *testing.T) {
	bits := ""
	for at := -1; at < 17; at++ {
		bits += string(rune('0' + bitAt("\xa5\x0f", at)))
	}
	if bits != "0"+"10100101"+"00001111"+"0" {
		t.Errorf("the bits are %s", bits)
	}
}

func TestWriteAndRead(t *testing.T) {
	l := lay(t, "a b ")
	if b, ok := Write(l, "ab"); b != "\x16\x80" || !ok {
		t.Errorf("Write: %q, %v", b, ok)
	}
	if s, ok := Read(l, "\x16\x80", 2); s != "ab" || !ok {
		t.Errorf("Read: %q, %v", s, ok)
	}
	if b, ok := Write(l, "abc"); b != "" || ok {
		t.Errorf("Write of a byte without a share: %q, %v", b, ok)
	}
	if s, ok := Read(l, "\x16\x80", 3); s != "" || ok {
		t.Errorf("Read of too many bytes: %q, %v", s, ok)
	}
}

// A layout that no table made has no numbers: reading by it must end all the same.
func TestNoLayout(t *testing.T) {
	var none shares.Layout
	if s, ok := Read(&none, strings.Repeat("\xff", 100), 3); s != "" || ok {
		t.Errorf("Read: %q, %v", s, ok)
	}
	if b, ok := Write(&none, "\x00"); b != "" || ok {
		t.Errorf("Write: %q, %v", b, ok)
	}
}
