package files

import (
	"strings"
	"testing"
)

func TestWriteAndRead(t *testing.T) {
	long := strings.Repeat("x", 500)
	for _, c := range []struct {
		file string
		says File
	}{
		{"GD\x01\x02\x01\x01a@\x02\x00xy\x17\x84\x35\x1d", File{258, "a@", "xy", 0x1d358417}},
		{"GD\x01\xff\xff\x02a b \xf4\x01" + long + "\xf7\x2b\x8e\xdf", File{65535, "a b ", long, 0xdf8e2bf7}},
	} {
		if got := Write(c.says.Id, c.says.Table, c.says.Content); got != c.file {
			t.Errorf("Write of %v is %q, want %q", c.says, got, c.file)
		}
		if got, ok := Read(c.file); !ok || got != c.says {
			t.Errorf("Read(%q) = %v, %v, want %v", c.file, got, ok, c.says)
		}
	}
}

func TestReadRefuses(t *testing.T) {
	for _, file := range []string{
		"", "GD\x01", "GD\x01\x00\x00\xff", Write(1, "a@", "x") + "x", Write(1, "a?", "x"), Write(1, "", "x"), Write(1, "a@", ""), Write(1, "a@", strings.Repeat("x", 501)),
		"GD\x01\x02\x01\x01a@\x02\x00xy\x17\x84\x35\x1e", "GD\x01\x02\x01\x01a@\x02\x00xz\x17\x84\x35\x1d",
	} {
		if got, ok := Read(file); ok || got != (File{}) {
			t.Errorf("Read(%.60q) = %v, %v", file, got, ok)
		}
	}
}
