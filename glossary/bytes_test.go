package glossary_test

import (
	"hash/fnv"
	"strings"
	"testing"

	"glossary/api"
	"glossary/glossary"
)

func TestP3Sum(t *testing.T) {
	for _, c := range []struct {
		s    string
		want int
	}{{"", 2166136261}, {"a", 3826002220}, {"\x00", 84696351}, {"\xff", 2047574606}, {"foobar", 0xbf9cf968}} {
		if got := glossary.Sum(c.s); got != c.want {
			t.Errorf("Sum(%q) = %d, want %d", c.s, got, c.want)
		}
	}
	d := dice{state: 3}
	for i := 0; i < 300; i++ {
		s := d.text(bytesFrom(0, 255), d.below(2000))
		h := fnv.New32a()
		h.Write([]byte(s))
		if got, want := glossary.Sum(s), int(h.Sum32()); got != want {
			t.Fatalf("Sum(%q) = %d, want %d", s, got, want)
		}
	}
}

func checkTable(t *testing.T, text, want string, wantErr api.Errno) {
	t.Helper()
	if got, e := glossary.Table(text); got != want || e != wantErr {
		t.Errorf("Table(%.80q) = %q, %d, want %q, %d", text, got, e, want, wantErr)
	}
}

func TestP4TableExamples(t *testing.T) {
	checkTable(t, "a", "a@", api.OK)
	checkTable(t, "ab", "a b ", api.OK)
	checkTable(t, "ba", "a b ", api.OK)
	checkTable(t, "aab", "a+b\x15", api.OK)
	checkTable(t, "\x00\xff", "\x00 \xff ", api.OK)
}

func TestP4TableEdges(t *testing.T) {
	checkTable(t, "", "", api.ErrParam)
	checkTable(t, strings.Repeat("a", api.MaxText), "a@", api.OK)
	checkTable(t, strings.Repeat("a", api.MaxText+1), "", api.ErrLong)
	checkTable(t, strings.Repeat("ab", 4000000), "", api.ErrLong)
	// A value that stands there once keeps its share of 1 beside 799 others.
	checkTable(t, "b"+strings.Repeat("a", 799), "a?b\x01", api.OK)
}

func TestP4TableOfManyValues(t *testing.T) {
	checkTable(t, bytesFrom(0, 31), evenly(bytesFrom(0, 31), 2), api.OK)
	checkTable(t, bytesFrom(0, 32), evenly(bytesFrom(0, 31), 2), api.OK)
	checkTable(t, bytesFrom(0, 255), evenly(bytesFrom(0, 31), 2), api.OK)
	// The greatest values stand there most often: they go ahead of lesser ones.
	checkTable(t, bytesFrom(0, 255)+bytesFrom(224, 255), evenly(bytesFrom(224, 255), 2), api.OK)
	checkTable(t, bytesFrom(0, 255)+bytesFrom(225, 255), evenly("\x00"+bytesFrom(225, 255), 2), api.OK)
}

func TestP4TableAsTheModelSays(t *testing.T) {
	d := dice{state: 4}
	for i := 0; i < 1500; i++ {
		letters := bytesFrom(0, 255)
		if i%3 > 0 {
			// Letters that stand there twice are the more frequent ones.
			letters = d.text(letters, 1+d.below(90))
		}
		text := d.text(letters, 1+d.below(api.MaxText))
		checkTable(t, text, modelTable(text), api.OK)
	}
}

func checkSqueeze(t *testing.T, table, s, want string, wantErr api.Errno) {
	t.Helper()
	if got, e := glossary.Squeeze(table, s); got != want || e != wantErr {
		t.Errorf("Squeeze(%.80q, %.40q) = %q, %d, want %q, %d", table, s, got, e, want, wantErr)
	}
}

func checkUnsqueeze(t *testing.T, table, stream string, n int, want string, wantErr api.Errno) {
	t.Helper()
	if got, e := glossary.Unsqueeze(table, stream, n); got != want || e != wantErr {
		t.Errorf("Unsqueeze(%.80q, %.40q, %d) = %.40q, %d, want %.40q, %d", table, stream, n, got, e, want, wantErr)
	}
}

func TestP5SqueezeExamples(t *testing.T) {
	checkSqueeze(t, "a@", "aaaa", "\x02", api.OK)
	checkSqueeze(t, "a b ", "ab", "\x16\x80", api.OK)
	checkSqueeze(t, "a b ", "abc", "", api.ErrByte)
	for _, table := range []string{"a@", "a b ", "\x00@", "\xff@", evenly(bytesFrom(192, 255), 1)} {
		checkSqueeze(t, table, "", "\x02", api.OK)
	}
}

func TestP5SqueezeEdges(t *testing.T) {
	long := strings.Repeat("a", api.MaxRecord)
	checkSqueeze(t, "a@", long, "\x02", api.OK)
	checkSqueeze(t, "a@", long+"a", "", api.ErrLong)
	// The dearest record: six bits for each of its bytes, six for the slot, one to close.
	b, e := glossary.Squeeze("a\x01b?", long)
	if len(b) != (6*api.MaxRecord+6+1+7)/8 || e != api.OK {
		t.Errorf("the stream of the dearest record has %d bytes, %d", len(b), e)
	}
	checkUnsqueeze(t, "a\x01b?", b, api.MaxRecord, long, api.OK)
	checkSqueeze(t, "a b ", "\x00", "", api.ErrByte)
	checkSqueeze(t, "a b ", strings.Repeat("ab", 249)+"c", "", api.ErrByte)
	checkSqueeze(t, "a b ", "c"+strings.Repeat("ab", 249), "", api.ErrByte)
}

func TestP5SqueezeErrorsInOrder(t *testing.T) {
	long := strings.Repeat("x", api.MaxRecord+1)
	checkSqueeze(t, "", long, "", api.ErrLong)
	checkSqueeze(t, "a b ", long, "", api.ErrLong)
	checkSqueeze(t, "a b!", "x", "", api.ErrTable)
	checkSqueeze(t, "a b ", "x", "", api.ErrByte)
}

// noTables are texts that are none, each for one reason.
func noTables() []string {
	return []string{
		"", "a", "@", "a@b", "a b c", // no pairs
		"a\x00", "a\x00b@", "a@b\x00", // a share of 0
		"aA", "a\xff", "a\x80", "a\x60b\xe0", // a share above 64
		"a?", "a b\x1f", "a b!", "a@b\x01", "a b c ", // not 64 together
		"b a ", "a a ", "\xff \x00 ", "a\x10c\x10b\x10d\x10", // values that do not rise
		evenly(bytesFrom(0, 64), 1), evenly(bytesFrom(0, 62), 1), evenly(bytesFrom(0, 255), 1),
		strings.Repeat("a@", 30000),
	}
}

func TestP5P6TablesThatAreNone(t *testing.T) {
	for _, table := range noTables() {
		checkSqueeze(t, table, "", "", api.ErrTable)
		checkSqueeze(t, table, "a", "", api.ErrTable)
		checkUnsqueeze(t, table, "\x02", 0, "", api.ErrTable)
		checkUnsqueeze(t, table, "\x02", 1, "", api.ErrTable)
	}
}

func TestP5P6TablesOfTheGreatestLength(t *testing.T) {
	for _, letters := range []string{bytesFrom(0, 63), bytesFrom(192, 255), bytesFrom(0, 31) + bytesFrom(224, 255)} {
		table := evenly(letters, 1)
		b, e := glossary.Squeeze(table, letters)
		if e != api.OK {
			t.Fatalf("Squeeze by a table of 128 bytes is %d", e)
		}
		checkUnsqueeze(t, table, b, 64, letters, api.OK)
	}
}

func TestP6UnsqueezeExamples(t *testing.T) {
	checkUnsqueeze(t, "a b ", "\x16\x80", 2, "ab", api.OK)
	checkUnsqueeze(t, "a b ", "\x16\x80", 1, "", api.ErrStream)
	checkUnsqueeze(t, "a b ", "\x16\x80", 3, "", api.ErrStream)
	checkUnsqueeze(t, "a b ", "\x16\x80\x00", 2, "", api.ErrStream)
}

func TestP6UnsqueezeEdges(t *testing.T) {
	checkUnsqueeze(t, "a@", "\x02", 0, "", api.OK)
	checkUnsqueeze(t, "a@", "\x02", api.MaxRecord, strings.Repeat("a", api.MaxRecord), api.OK)
	for _, n := range []int{-1, api.MaxRecord + 1, -1 << 63, 1<<63 - 1} {
		checkUnsqueeze(t, "a@", "\x02", n, "", api.ErrParam)
	}
	checkUnsqueeze(t, "a@", strings.Repeat("\x02", api.MaxFrame), 1, "", api.ErrStream)
	checkUnsqueeze(t, "a@", strings.Repeat("\x02", api.MaxFrame+1), 1, "", api.ErrLong)
	checkUnsqueeze(t, "a@", strings.Repeat("\x02", 5000000), 1, "", api.ErrLong)
	checkUnsqueeze(t, "a b ", strings.Repeat("\xff", api.MaxFrame), api.MaxRecord, "", api.ErrStream)
}

func TestP6UnsqueezeErrorsInOrder(t *testing.T) {
	long := strings.Repeat("\x00", api.MaxFrame+1)
	checkUnsqueeze(t, "", long, -1, "", api.ErrLong)
	checkUnsqueeze(t, "a@", long, 501, "", api.ErrLong)
	checkUnsqueeze(t, "", "", -1, "", api.ErrParam)
	checkUnsqueeze(t, "", "", 501, "", api.ErrParam)
	checkUnsqueeze(t, "a?", "", 1, "", api.ErrTable)
	checkUnsqueeze(t, "a@", "", 1, "", api.ErrStream)
}

func TestP6StreamsThatAreNone(t *testing.T) {
	for _, stream := range []string{
		"", "\x00", "\x00\x00", "\x02\x00", "\x02\x80", // nothing closes them, or the wrong byte does
		"\x80", "\x04", "\xfc", // fewer than six bits
		"\x01", "\x03", "\x00\x80", "\x00\x01", // bits are left
		"\x06", "\x82", "\xfe", // the last slot is not 0
	} {
		for _, n := range []int{0, 1, 2, api.MaxRecord} {
			checkUnsqueeze(t, "a@", stream, n, "", api.ErrStream)
		}
	}
}

// Every text of one or two bytes is held against the model, whether it is a stream or not.
func TestP6AllShortStreams(t *testing.T) {
	for _, table := range []string{"a@", "a b ", "a?b\x01", "a\x01b\x02c=", evenly(bytesFrom(0, 63), 1)} {
		m := modelOf(table)
		for n := 0; n <= 5; n++ {
			for i := 0; i < 256+65536; i++ {
				stream := string([]byte{byte(i)})
				if i >= 256 {
					stream = string([]byte{byte(i >> 8), byte(i)})
				}
				want, ok := m.read(stream, n)
				got, e := glossary.Unsqueeze(table, stream, n)
				if ok && (got != want || e != api.OK) || !ok && (got != "" || e != api.ErrStream) {
					t.Fatalf("Unsqueeze(%q, %q, %d) = %q, %d, want %q, %v", table, stream, n, got, e, want, ok)
				}
				if ok {
					checkSqueeze(t, table, got, stream, api.OK)
				}
			}
		}
	}
}

func TestP5P6ThereAndBack(t *testing.T) {
	d := dice{state: 5}
	for i := 0; i < 1200; i++ {
		table := d.table()
		s := d.text(lettersOf(table), d.below(api.MaxRecord+1))
		b, e := glossary.Squeeze(table, s)
		if e != api.OK {
			t.Fatalf("Squeeze(%q, %q) is %d", table, s, e)
		}
		if got, ok := modelOf(table).read(b, len(s)); got != s || !ok {
			t.Fatalf("Squeeze(%q, %q) = %q: no stream of that", table, s, b)
		}
		checkUnsqueeze(t, table, b, len(s), s, api.OK)
	}
}

// A stream in which one bit is another is the stream of other bytes, or none.
func TestP6StreamsWithAnotherBit(t *testing.T) {
	d := dice{state: 6}
	for i := 0; i < 300; i++ {
		table := d.table()
		s := d.text(lettersOf(table), d.below(20))
		b, _ := glossary.Squeeze(table, s)
		m := modelOf(table)
		for at := 0; at < 8*len(b); at++ {
			other := []byte(b)
			other[at/8] ^= 1 << (at % 8)
			want, ok := m.read(string(other), len(s))
			if !ok {
				checkUnsqueeze(t, table, string(other), len(s), "", api.ErrStream)
				continue
			}
			if want == s {
				t.Fatalf("%q has two streams by %q", s, table)
			}
			checkUnsqueeze(t, table, string(other), len(s), want, api.OK)
		}
	}
}
