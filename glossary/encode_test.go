package glossary_test

import (
	"strings"
	"testing"

	"glossary/api"
	"glossary/glossary"
)

// checkEncode wants a frame with this body, packed or plain, and the record back.
func checkEncode(t *testing.T, file, record string, how int, body string) {
	t.Helper()
	want := modelHeaded(file, how, record, body)
	if got, e := glossary.Encode(file, record); got != want || e != api.OK {
		t.Errorf("Encode(%.40q, %.80q) = %.120q, %d, want %.120q", file, record, got, e, want)
	}
	checkDecode(t, file, want, record, api.OK)
}

func checkPlain(t *testing.T, file, record string) {
	t.Helper()
	checkEncode(t, file, record, 0, record)
}

func checkPacked(t *testing.T, file, record, body string) {
	t.Helper()
	checkEncode(t, file, record, 1, body)
}

func checkNoFrame(t *testing.T, file, record string, want api.Errno) {
	t.Helper()
	if got, e := glossary.Encode(file, record); got != "" || e != want {
		t.Errorf("Encode(%.40q, %.40q) = %.40q, %d, want %d", file, record, got, e, want)
	}
}

// helloFile is the one of the document's examples.
func helloFile() string {
	return modelFile(1, "a@", "hello world")
}

// strange gives n bytes of which no four in a row stand there twice.
func strange(n int) string {
	out := ""
	for i := 0; len(out) < n; i++ {
		out += low(i, 1) + low(i%251, 1) + low(255-i%249, 1)
	}
	return out[:n]
}

func TestP11EncodeExamples(t *testing.T) {
	checkPlain(t, helloFile(), "hello")
	checkPacked(t, helloFile(), "hello world", "\x00\x00\x01\x00\x07\x0b")
	checkPacked(t, helloFile(), "aaaaaaaaaaaaaaaa", "\x01\x00a\x01\x01\x0b\x01")
	checkPlain(t, helloFile(), "aXaYaZ")
}

func TestP11TheWholeFrame(t *testing.T) {
	file := "GD\x01\x02\x01\x01a@\x02\x00xy\x17\x84\x35\x1d"
	for _, c := range []struct{ record, frame string }{
		{"", "F\x00\x02\x01\x17\x84\x35\x1d\x00\x00\xc5\x9d\x1c\x81"},
		{"a", "F\x00\x02\x01\x17\x84\x35\x1d\x01\x00\x2c\x29\x0c\xe4a"},
		{"aaaaaaaaaa", "F\x01\x02\x01\x17\x84\x35\x1d\x0a\x00\xdf\x06\xda\x11\x01\x00a\x01\x01\x05\x01"},
	} {
		if got, e := glossary.Encode(file, c.record); got != c.frame || e != api.OK {
			t.Errorf("Encode(.., %q) = %q, %d, want %q", c.record, got, e, c.frame)
		}
	}
}

func TestP11PackedIfShorter(t *testing.T) {
	checkPlain(t, helloFile(), "")
	checkPlain(t, helloFile(), "hello ")
	checkPacked(t, helloFile(), "hello w", "\x00\x00\x01\x00\x03\x0b")
	checkPlain(t, helloFile(), "Xhello ")
	checkPacked(t, helloFile(), "Xhello w", "\x01\x00X\x01\x01\x03\x0c")
	checkPacked(t, helloFile(), "hello wX", "\x01\x00X\x01\x00\x03\x0b")
}

func TestP11WhichCopyIsTaken(t *testing.T) {
	by := func(content string) string { return modelFile(9, "a@", content) }
	// Three bytes are no copy, four are one.
	checkPacked(t, by("0123456789.uvw"), "0123456789uvw", "\x03\x00uvw\x01\x00\x06\x0e")
	checkPacked(t, by("0123456789.uvwx"), "0123456789uvwx", "\x00\x00\x02\x00\x06\x0f\x00\x00\x0e")
	// Of equally long ones the nearest.
	checkPacked(t, by("0123456-0123456-0123456."), "0123456", "\x00\x00\x01\x00\x03\x08")
	checkPacked(t, by("01234567.01234567."), "0123456701234567", "\x00\x00\x02\x00\x04\x09\x00\x04\x08")
	// A longer one, though it is farther.
	checkPacked(t, by("01234567-0123456-"), "01234567", "\x00\x00\x01\x00\x04\x11")
	// What can begin here is taken, though a longer one could begin at the next byte.
	checkPacked(t, by("abcd-bcdefghijklmnopq"), "abcdefghijklmnopq", "\x00\x00\x02\x00\x00\x15\x00\x09\x11")
	// It goes on from the content into the record, and into itself; not beyond the record's end.
	checkPacked(t, by("....abcde"), "abcdeabcdeabcdeab", "\x00\x00\x01\x00\x0d\x05")
	checkPacked(t, by("....zzzz"), "zzzzzzzz", "\x00\x00\x01\x00\x04\x01")
	checkPacked(t, by("01234567"), "X01234567X0123", "\x01\x00X\x01\x01\x09\x09")
	// From the record itself.
	checkPacked(t, by("."), "0123456789+0123456789", "\x0b\x000123456789+\x01\x0b\x06\x0b")
}

func TestP11FarAndLongCopies(t *testing.T) {
	s := strange(1000)
	// The distance reaches from the record's last four bytes to the content's first.
	file := modelFile(7, "a@", s[:500])
	body := "\x00\x00\x02\x00" + modelCount(492) + modelCount(496) + "\x00\x00" + modelCount(996)
	checkPacked(t, file, s[4:500]+s[:4], body)
	checkPacked(t, file, s[:500], "\x00\x00\x01\x00\xf0\x03\xf4\x03")
	// Copies of 131 and 132 bytes, at distances of 127 and 128: where counts come to two bytes.
	checkPacked(t, modelFile(7, "a@", s[:131]), s[:131], "\x00\x00\x01\x00\x7f\x83\x01")
	checkPacked(t, modelFile(7, "a@", s[:132]), s[:132], "\x00\x00\x01\x00\x80\x01\x84\x01")
	checkPacked(t, modelFile(7, "a@", s[:127]), s[:20], "\x00\x00\x01\x00\x10\x7f")
	checkPacked(t, modelFile(7, "a@", s[:128]), s[:20], "\x00\x00\x01\x00\x10\x80\x01")
	// The least record and the greatest.
	checkPlain(t, file, "x")
	checkPlain(t, modelFile(7, "a@", "x"), s[:500])
	checkPacked(t, modelFile(7, "a@", "x"), strings.Repeat("x", 500), "\x00\x00\x01\x00\xf0\x03\x01")
}

func TestP11LooseBytesPlainOrAsAStream(t *testing.T) {
	file := modelFile(3, "a b ", "0123456789")
	// Three bytes have a stream as long as they are, with its length; four have one that is shorter.
	checkPacked(t, file, "aba0123456789", "\x03\x00aba\x01\x03\x06\x0d")
	b, _ := glossary.Squeeze("a b ", "abab")
	checkPacked(t, file, "abab0123456789", "\x04\x01\x02"+b+"\x01\x04\x06\x0e")
	// A byte without a share: all are written plainly.
	checkPacked(t, file, "ababX0123456789", "\x05\x00ababX\x01\x05\x06\x0f")
	// Bytes in copies need no share; loose ones of several places are one stream.
	b, _ = glossary.Squeeze("a b ", "abbabb")
	checkPacked(t, file, "ab01234ba56789bb", "\x06\x01\x02"+b+"\x02\x02\x01\x0c\x02\x01\x0e")
	// Many bytes: as plain ones, and as a stream of less than one byte, of 128 bytes, of more.
	s := strange(500)
	checkPacked(t, file, s[:127]+"0123456789", "\x7f\x00"+s[:127]+"\x01\x7f\x06"+modelCount(137))
	checkPacked(t, file, s[:128]+"0123456789", "\x80\x01\x00"+s[:128]+"\x01\x80\x01\x06"+modelCount(138))
	d := dice{state: 12}
	letters := bytesFrom(0, 63)
	table := evenly(letters, 1)
	for _, n := range []int{168, 169, 170, 171, 400, 500} {
		record := d.text(letters, n)
		b, _ := glossary.Squeeze(table, record)
		if len(b) != (6+6*n)/8+1 {
			t.Fatalf("a stream of %d bytes, for %d", len(b), n)
		}
		checkPacked(t, modelFile(3, table, "\xff"), record, modelCount(n)+"\x01"+modelCount(len(b))+b+"\x00")
	}
}

func TestP11EncodeErrorsInOrder(t *testing.T) {
	long := strings.Repeat("a", api.MaxRecord+1)
	file := helloFile()
	checkNoFrame(t, file, long, api.ErrLong)
	checkNoFrame(t, "", long, api.ErrLong)
	checkNoFrame(t, file, strings.Repeat("a", 5000000), api.ErrLong)
	for _, other := range []string{"", "G", file[1:], file[:len(file)-1], file + "x", strings.Repeat("x", 5000000), modelFile(1, "a?", "hello world"), modelFile(1, "a@", "")} {
		checkNoFrame(t, other, "", api.ErrFile)
		checkNoFrame(t, other, "hello world", api.ErrFile)
		checkNoFrame(t, other, long, api.ErrLong)
	}
}

// someRecord makes a record out of pieces of a content and of what it has so far, and other bytes.
func someRecord(d *dice, content, letters string, most int) string {
	record := ""
	for n := d.below(6); n >= 0; n-- {
		all := content + record
		from := d.below(len(all))
		switch d.below(3) {
		case 0:
			record += d.text(letters, d.below(9))
		case 1:
			record += d.text(bytesFrom(0, 255), d.below(5))
		default:
			record += all[from : from+d.below(len(all)-from+1)]
		}
	}
	return record[:min(len(record), most)]
}

func TestP11EncodeAsTheModelSays(t *testing.T) {
	d := dice{state: 11}
	for i := 0; i < 2500; i++ {
		table := d.table()
		letters := lettersOf(table)
		content := d.text(letters[:1+d.below(len(letters))], 1+d.below(40))
		most := 100
		if i%50 == 0 {
			content = d.text(letters, 1+d.below(api.MaxContent))
			most = api.MaxRecord
		}
		file := modelFile(d.below(65536), table, content)
		record := someRecord(&d, content, letters, most)
		want := modelEncode(file, record)
		if got, e := glossary.Encode(file, record); got != want || e != api.OK {
			t.Fatalf("Encode(%q, %q) = %q, %d, want %q", file, record, got, e, want)
		}
		checkDecode(t, file, want, record, api.OK)
		checkDecode(t, file, modelHeaded(file, 1, record, modelBody(table, content, record)), record, api.OK)
	}
}

// Every record of up to ten letters a and b, by contents in which they stand.
func TestP11AllShortRecords(t *testing.T) {
	for _, content := range []string{"a", "abab", "aabbabaa", "bbbbbaaaab"} {
		file := modelFile(1, "a b ", content)
		for n := 0; n <= 10; n++ {
			for bits := 0; bits < 1<<n; bits++ {
				record := ""
				for i := 0; i < n; i++ {
					record += string("ab"[bits>>i&1])
				}
				want := modelEncode(file, record)
				if got, e := glossary.Encode(file, record); got != want || e != api.OK {
					t.Fatalf("Encode(%q, %q) = %q, %d, want %q", file, record, got, e, want)
				}
				checkDecode(t, file, want, record, api.OK)
			}
		}
	}
}

// Records by a dictionary that was learned from their like.
func TestP11P12RecordsAndTheirDictionary(t *testing.T) {
	d := dice{state: 13}
	text := ""
	for len(text) < 700 {
		text += "name=" + d.text("abcdefgh", 5) + ";colour=" + []string{"red", "green", "blue"}[d.below(3)] + ";"
	}
	file, e := glossary.Train(4, text, 12, 6, 120)
	if e != api.OK {
		t.Fatalf("Train: %d", e)
	}
	for i := 0; i < 200; i++ {
		record := "name=" + d.text("abcdefgh", 5) + ";colour=" + []string{"red", "green", "blue"}[d.below(3)] + ";"
		frame, e := glossary.Encode(file, record)
		if e != api.OK || frame[1] != 1 {
			t.Errorf("Encode(.., %q) = %q, %d", record, frame, e)
		}
		checkDecode(t, file, frame, record, api.OK)
	}
}
