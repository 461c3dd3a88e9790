package frames

import (
	"testing"

	"glossary/files"
)

var hello = files.File{Id: 258, Table: "a@", Content: "hello world", Sum: 0x04030201}

const plainHead = "F\x00\x02\x01\x01\x02\x03\x04\x01\x00\x2c\x29\x0c\xe4"

func TestWrite(t *testing.T) {
	if got := Write(&hello, "a"); got != plainHead+"a" {
		t.Errorf("Write: %q", got)
	}
	if got := Write(&hello, "hello world"); got[:2] != "F\x01" || got[14:] != "\x00\x00\x01\x00\x07\x0b" {
		t.Errorf("Write: %q", got)
	}
	// As short as the plain one is not shorter.
	if got := Write(&hello, "hello "); got[:2] != "F\x00" || got[14:] != "hello " {
		t.Errorf("Write: %q", got)
	}
}

func TestReadHead(t *testing.T) {
	want := Head{Packed: false, Id: 258, FileSum: 0x04030201, Size: 1, Sum: 0xe40c292c}
	if got, ok := ReadHead(plainHead); got != want || !ok {
		t.Errorf("ReadHead: %v, %v", got, ok)
	}
	want.Packed = true
	if got, ok := ReadHead("F\x01" + plainHead[2:] + "any body"); got != want || !ok {
		t.Errorf("ReadHead: %v, %v", got, ok)
	}
	want.Size = 500
	if got, ok := ReadHead("F\x01" + plainHead[2:8] + "\xf4\x01" + plainHead[10:]); got != want || !ok {
		t.Errorf("ReadHead: %v, %v", got, ok)
	}
	for _, s := range []string{"", "F", plainHead[:13], "G" + plainHead[1:], "F\x02" + plainHead[2:], "F\xff" + plainHead[2:], plainHead[:8] + "\xf5\x01" + plainHead[10:], plainHead[:8] + "\x00\x02" + plainHead[10:]} {
		if got, ok := ReadHead(s); got != (Head{}) || ok {
			t.Errorf("ReadHead(%q) = %v, %v", s, got, ok)
		}
	}
}

func TestReadBody(t *testing.T) {
	for _, c := range []struct {
		packed bool
		size   int
		body   string
		record string
		ok     bool
	}{
		{false, 0, "", "", true}, {false, 2, "ab", "ab", true}, {false, 1, "ab", "", false}, {false, 3, "ab", "", false},
		{true, 5, "\x00\x00\x01\x00\x01\x0b", "hello", true}, {true, 6, "\x00\x00\x01\x00\x01\x0b", "", false}, {true, 0, "", "", false},
	} {
		h := Head{Packed: c.packed, Size: c.size}
		if got, ok := ReadBody(&hello, &h, plainHead+c.body); got != c.record || ok != c.ok {
			t.Errorf("ReadBody of %q = %q, %v, want %q, %v", c.body, got, ok, c.record, c.ok)
		}
	}
	if got, ok := ReadBody(&hello, &Head{}, plainHead[:13]); got != "" || ok {
		t.Errorf("ReadBody: %q, %v", got, ok)
	}
}
