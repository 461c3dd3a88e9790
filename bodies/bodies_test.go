package bodies

import (
	"slices"
	"testing"
)

func TestSplit(t *testing.T) {
	for _, c := range []struct {
		content, record, loose string
		steps                  []step
	}{
		{"hello world", "", "", nil},
		{"hello world", "hello", "", []step{{0, 5, 11}}},
		{"hello world", "hel", "hel", nil},
		{"hello world", "aXaYaZ", "aXaYaZ", nil},
		{"hello world", "aaaaaaaaaaaaaaaa", "a", []step{{1, 15, 1}}},
		{"hello world", "say hello!", "say !", []step{{4, 5, 15}}},
		{"hello world", "helloworld", "", []step{{0, 5, 11}, {0, 5, 10}}},
		// Of several longest copies the nearest, but a longer one even from afar.
		{"abcd1abcd2", "abcd", "", []step{{0, 4, 5}}},
		{"abcde1abcd2", "abcde", "", []step{{0, 5, 11}}},
		// What is found first is taken, though a longer copy would begin at the next byte.
		{"abcd-bcdefghij", "abcdefghij", "", []step{{0, 4, 14}, {0, 6, 10}}},
	} {
		if loose, steps := split(c.content, c.record); loose != c.loose || !slices.Equal(steps, c.steps) {
			t.Errorf("split(%q, %q) = %q, %v, want %q, %v", c.content, c.record, loose, steps, c.loose, c.steps)
		}
	}
}

func TestCountSame(t *testing.T) {
	for _, c := range []struct {
		text               string
		at, distance, want int
	}{
		{"abab", 2, 2, 2}, {"abab", 2, 1, 0}, {"aaaa", 1, 1, 3}, {"abcabd", 3, 3, 2},
		{"aaaa", 1, 2, 0}, {"aaaa", 1, 0, 0}, {"aaaa", 1, -1, 0}, {"aaaa", 4, 1, 0}, {"", 0, 0, 0}, {"a", 5, 3, 0}, {"a", -1, -1, 0},
	} {
		if got := countSame(c.text, c.at, c.distance); got != c.want {
			t.Errorf("countSame(%q, %d, %d) = %d, want %d", c.text, c.at, c.distance, got, c.want)
		}
	}
}

func TestPlay(t *testing.T) {
	for _, c := range []struct {
		loose string
		steps []step
		size  int
		want  string
		ok    bool
	}{
		{"", nil, 0, "", true}, {"ab", nil, 2, "ab", true}, {"ab", nil, 1, "", false}, {"ab", nil, 3, "", false}, {"", nil, -1, "", false},
		{"", []step{{0, 4, 1}}, 4, "zzzz", true}, {"", []step{{0, 4, 3}}, 4, "xyzx", true}, {"ab", []step{{1, 4, 2}}, 6, "azazab", true},
		{"", []step{{0, 4, 4}}, 4, "", false}, {"", []step{{0, 4, 0}}, 4, "", false}, {"", []step{{0, 4, -1}}, 4, "", false}, {"a", []step{{2, 4, 1}}, 5, "", false}, {"a", []step{{-1, 4, 1}}, 5, "", false},
		{"a", []step{{1, 4, 4}}, 5, "axyza", true}, {"a", []step{{0, 4, 4}}, 5, "", false},
		{"", []step{{0, 4, 1}}, 3, "", false}, {"", []step{{0, 4, 1}}, 5, "", false}, {"", []step{{0, 1 << 62, 1}}, 5, "", false}, {"", []step{{0, 4, 1}}, -1, "", false},
	} {
		if got, ok := play("xyz", c.loose, c.steps, c.size); got != c.want || ok != c.ok {
			t.Errorf("play(.., %q, %v, %d) = %q, %v, want %q, %v", c.loose, c.steps, c.size, got, ok, c.want, c.ok)
		}
	}
}

func TestWriteAndRead(t *testing.T) {
	for _, c := range []struct{ record, body string }{
		{"", "\x00\x00\x00"}, {"0123", "\x00\x00\x01\x00\x00\x0a"}, {"aba", "\x03\x00aba\x00"}, {"abba", "\x04\x01\x02\x21\x20\x00"}, {"abbX", "\x04\x00abbX\x00"},
	} {
		if got := Write("a b ", "0123456789", c.record); got != c.body {
			t.Errorf("Write of %q is %q, want %q", c.record, got, c.body)
		}
		if got, ok := Read("a b ", "0123456789", c.body, len(c.record)); got != c.record || !ok {
			t.Errorf("Read(%q) = %q, %v, want %q", c.body, got, ok, c.record)
		}
	}
}

// What is no table has no streams: plain bytes can be written and read all the same.
func TestNoTable(t *testing.T) {
	if got := Write("", "x", "aaabaabb"); got != "\x08\x00aaabaabb\x00" {
		t.Errorf("Write: %q", got)
	}
	if got, ok := Read("", "x", "\x01\x00a\x00", 1); got != "a" || !ok {
		t.Errorf("Read: %q, %v", got, ok)
	}
	if got, ok := Read("", "x", "\x00\x01\x01\x02\x00", 0); got != "" || ok {
		t.Errorf("Read: %q, %v", got, ok)
	}
}
