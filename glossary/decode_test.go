package glossary_test

import (
	"strings"
	"testing"

	"glossary/api"
	"glossary/glossary"
)

func checkDecode(t *testing.T, file, frame, want string, wantErr api.Errno) {
	t.Helper()
	if got, e := glossary.Decode(file, frame); got != want || e != wantErr {
		t.Errorf("Decode(%.60q, %.120q) = %.60q, %d, want %.60q, %d", file, frame, got, e, want, wantErr)
	}
}

// checkBody holds a packed frame with this body and the right head against what it should tell.
func checkBody(t *testing.T, file, body, record string, wantErr api.Errno) {
	t.Helper()
	frame := modelHeaded(file, 1, record, body)
	if wantErr != api.OK {
		record = ""
	}
	checkDecode(t, file, frame, record, wantErr)
}

func TestP12PlainFrames(t *testing.T) {
	file := helloFile()
	long := strings.Repeat("q", api.MaxRecord)
	for _, record := range []string{"", "a", "hello", "F", "\x00\xff", bytesFrom(0, 255), long} {
		checkDecode(t, file, modelHeaded(file, 0, record, record), record, api.OK)
		checkDecode(t, file, modelHeaded(file, 0, record, record+"x"), "", api.ErrFrame)
		if record != "" {
			checkDecode(t, file, modelHeaded(file, 0, record, record[1:]), "", api.ErrFrame)
			checkDecode(t, file, modelHeaded(file, 0, record, ""), "", api.ErrFrame)
			checkDecode(t, file, modelHeaded(file, 0, record, "\x01"+record[1:]), "", api.ErrSum)
		}
	}
	checkDecode(t, file, modelHeaded(file, 0, long+"q", long+"q"), "", api.ErrFrame)
	checkDecode(t, file, modelHeaded(file, 0, "hello", strings.Repeat("q", 986)), "", api.ErrFrame)
	checkDecode(t, file, modelHeaded(file, 0, "hello", strings.Repeat("q", 987)), "", api.ErrLong)
}

// Bodies that Encode does not make are taken too.
func TestP12BodiesThatAreSome(t *testing.T) {
	file := helloFile()
	checkBody(t, file, "\x00\x00\x00", "", api.OK)
	checkBody(t, file, "\x00\x01\x01\x02\x00", "", api.OK)
	checkBody(t, file, "\x00\x00\x01\x00\x01\x0b", "hello", api.OK)
	checkBody(t, file, "\x05\x00hello\x00", "hello", api.OK)
	checkBody(t, file, "\x01\x00h\x01\x01\x00\x0b", "hello", api.OK)
	checkBody(t, file, "\x01\x00o\x01\x00\x00\x0b", "hello", api.OK)
	checkBody(t, file, "\x00\x00\x02\x00\x00\x0b\x00\x00\x0b", "hello wo", api.OK)
	checkBody(t, file, "\x03\x00abc\x02\x01\x00\x0c\x01\x00\x0b", "ahellbworlc", api.OK)
	checkBody(t, file, "\x03\x00abc\x02\x01\x00\x0c\x01\x00\x0c", "ahellb worc", api.OK)
	checkBody(t, file, "\x03\x00abc\x02\x01\x00\x0c\x01\x00\x0c", "ahellbworlc", api.ErrSum)
	// A copy that runs into itself: from the last byte, from the last but one, from just so far as it is long.
	checkBody(t, file, "\x00\x00\x01\x00\x02\x01", "dddddd", api.OK)
	checkBody(t, file, "\x00\x00\x01\x00\x03\x02", "ldldldl", api.OK)
	checkBody(t, file, "\x00\x00\x01\x00\x00\x04", "orld", api.OK)
	checkBody(t, file, "\x00\x00\x01\x00\x01\x04", "orldo", api.OK)
	// A stream that could as well be plain bytes, and one of very many bytes.
	checkBody(t, file, "\x01\x01\x01\x02\x00", "a", api.OK)
	checkBody(t, file, "\xf4\x03\x01\x01\x02\x00", strings.Repeat("a", 500), api.OK)
	checkBody(t, file, "\x02\x01\x01\x02\x01\x01\x00\x02", "adadaa", api.OK)
	// As far as the content and the loose bytes reach.
	checkBody(t, file, "\x02\x00XY\x01\x02\x00\x0d", "XYhell", api.OK)
	checkBody(t, file, "\x02\x00XY\x01\x02\x00\x0e", "XYhell", api.ErrFrame)
}

func TestP12BodiesThatAreNone(t *testing.T) {
	file := helloFile()
	long := strings.Repeat("d", 500)
	for _, c := range []struct{ record, body string }{
		// Neither 0 nor 1 behind the number of loose bytes.
		{"", "\x00\x02\x00"}, {"", "\x00\xff\x00"}, {"a", "\x01\x02a\x00"}, {"", "\x00\x80\x01\x00"},
		// A number that is no count.
		{"", "\x80\x00\x00\x00"}, {"", "\x80\x80\x00\x00"}, {"a", "\x81\x00\x00a\x00"}, {"", "\x00\x00\x80\x00"}, {"", "\x00\x00\x80\xff"}, {"", "\x00\x01\x81\x00\x02\x00"},
		{"hello", "\x00\x00\x81\x00\x00\x01\x0b"}, {"hello", "\x00\x00\x01\x80\x00\x01\x0b"}, {"hello", "\x00\x00\x01\x00\x81\x00\x0b"}, {"hello", "\x00\x00\x01\x00\x01\x8b\x00"}, {"hello", "\x00\x00\x01\x00\x01\x8b\x80"},
		// An end that comes too early.
		{"", ""}, {"", "\x00"}, {"", "\x00\x00"}, {"", "\x00\x01"}, {"", "\x00\x01\x01"}, {"", "\x00\x01\x01\x02"}, {"", "\x80"}, {"", "\x00\x00\x80"}, {"", "\x00\x01\x80"}, {"", "\x00\x01\x02\x02\x00"},
		{"ab", "\x02\x00a"}, {"ab", "\x02\x00ab"}, {"a", "\x02\x00a\x00"}, {"a", "\xff\x7f\x00a\x00"}, {"a", "\x01\x01\xff\x7f\x02\x00"},
		{"hello", "\x00\x00\x01"}, {"hello", "\x00\x00\x01\x00"}, {"hello", "\x00\x00\x01\x00\x01"}, {"hello", "\x00\x00\x01\x00\x01\x8b"}, {"hello", "\x00\x00\x02\x00\x01\x0b"}, {"hello", "\x00\x00\xff\x7f\x00\x01\x0b"},
		// No stream of so many bytes.
		{"", "\x00\x01\x00\x00"}, {"", "\x00\x01\x01\x00\x00"}, {"a", "\x01\x01\x01\x03\x00"}, {"a", "\x01\x01\x01\x06\x00"}, {"a", "\x01\x01\x02\x02\x00\x00"}, {"b", "\x01\x01\x01b\x00"},
		// More loose bytes wanted than there are.
		{"hello", "\x00\x00\x01\x01\x01\x0b"}, {"Xhello", "\x01\x00X\x01\x02\x01\x0c"}, {"Xhellohello", "\x01\x00X\x02\x01\x01\x0c\x01\x01\x05"}, {"hello", "\x00\x00\x01\xff\x7f\x01\x0b"},
		// A distance of 0, or one that reaches ahead of the content.
		{"hello", "\x00\x00\x01\x00\x01\x00"}, {"hello", "\x00\x00\x01\x00\x01\x0c"}, {"Xhello", "\x01\x00X\x01\x01\x01\x0d"}, {"Xhello", "\x01\x00X\x01\x00\x01\x0c"}, {"hello", "\x00\x00\x01\x00\x01\xff\x7f"},
		// Fewer bytes than the head says, or more.
		{"a", "\x00\x00\x00"}, {"", "\x01\x00a\x00"}, {"hello", "\x00\x00\x01\x00\x00\x0b"}, {"hello", "\x00\x00\x01\x00\x02\x0b"}, {"hello", "\x04\x00hell\x00"}, {"hell", "\x05\x00hello\x00"}, {"", "\x00\x00\x01\x00\x00\x01"},
		{"aa", "\x01\x01\x01\x02\x00"}, {"a", "\x02\x01\x01\x02\x00"}, {long, "\x00\x00\x01\x00\xf1\x03\x01"}, {long, "\x00\x00\x01\x00\xff\x7f\x01"}, {"aaaa", "\xff\x7f\x01\x01\x02\x00"}, {"hello", "\x01\x00X\x01\x00\x01\x0b"},
		// Something behind the last copy.
		{"", "\x00\x00\x00\x00"}, {"", "\x00\x00\x00x"}, {"hello", "\x00\x00\x01\x00\x01\x0b\x00"}, {"hello", "\x05\x00hello\x00\x00"}, {"a", "\x01\x01\x01\x02\x00\x00"}, {"hello", "\x00\x00\x00\x00\x01\x0b"},
	} {
		checkBody(t, file, c.body, c.record, api.ErrFrame)
	}
	checkBody(t, file, "\x00\x00\x01\x00\xf0\x03\x01", long, api.OK)
	// Copies that would come to millions of bytes.
	copies := strings.Repeat("\x00\xff\x7f\x01", 240)
	checkBody(t, file, "\x00\x00"+modelCount(240)+copies, long, api.ErrFrame)
}

func TestP12Heads(t *testing.T) {
	file := modelFile(513, "a@", "hello world")
	for _, frame := range []string{modelHeaded(file, 0, "hello", "hello"), modelHeaded(file, 1, "hello", "\x00\x00\x01\x00\x01\x0b")} {
		checkDecode(t, file, frame, "hello", api.OK)
		for end := 0; end < len(frame); end++ {
			checkDecode(t, file, frame[:end], "", api.ErrFrame)
		}
		for at := 0; at < api.Head; at++ {
			for other := 1; other < 256; other++ {
				b := []byte(frame)
				b[at] ^= byte(other)
				want := api.ErrFrame // the mark, how, or the record's length
				switch {
				case at == 2 || at == 3:
					want = api.ErrUnknown
				case at >= 4 && at < 8:
					want = api.ErrOther
				case at >= 10:
					want = api.ErrSum
				}
				checkDecode(t, file, string(b), "", want)
			}
		}
	}
}

// Every choice of seven faults: the one that is named first is answered.
func TestP12DecodeErrorsInOrder(t *testing.T) {
	named := []api.Errno{api.ErrLong, api.ErrFile, api.ErrFrame, api.ErrUnknown, api.ErrOther, api.ErrFrame, api.ErrSum}
	for choice := 0; choice < 1<<7; choice++ {
		record, want := "hello", api.OK
		var has [7]bool
		for i := 6; i >= 0; i-- {
			if has[i] = choice>>i&1 == 1; has[i] {
				record, want = "", named[i]
			}
		}
		for how := 0; how < 4; how++ {
			file := helloFile()
			frame := faulty(file, has[3], has[4], has[5], has[6])
			if has[2] {
				frame = headless(frame, how)
			}
			if has[1] {
				file = file[:len(file)-1]
			}
			if has[0] {
				frame += strings.Repeat("x", 1001-len(frame))
			}
			checkDecode(t, file, frame, record, want)
		}
	}
}

// faulty makes a frame of hello with these faults.
func faulty(file string, unknown, other, noBody, noSum bool) string {
	b := []byte(modelHeaded(file, 1, "hello", "\x05\x00hello\x00"))
	if unknown {
		b[2]++
	}
	if other {
		b[7]++
	}
	if noSum {
		b[10]++
	}
	if noBody {
		b = b[:len(b)-1]
	}
	return string(b)
}

// headless takes a frame's head from it, in one of four ways.
func headless(frame string, how int) string {
	switch how {
	case 0:
		return frame[:13]
	case 1:
		return "f" + frame[1:]
	case 2:
		return "F\x02" + frame[2:]
	}
	return frame[:8] + "\xf5\x01" + frame[10:]
}

func TestP12OtherFiles(t *testing.T) {
	file := helloFile()
	frame, _ := glossary.Encode(file, "hello world")
	checkDecode(t, file, frame, "hello world", api.OK)
	for _, id := range []int{0, 2, 256, 257, 65535} {
		checkDecode(t, modelFile(id, "a@", "hello world"), frame, "", api.ErrUnknown)
	}
	checkDecode(t, modelFile(1, "a@", "hello World"), frame, "", api.ErrOther)
	checkDecode(t, modelFile(1, "b@", "hello world"), frame, "", api.ErrOther)
	for _, none := range []string{"", file[1:], file[:len(file)-1], file + "x", modelFile(1, "a?", "hello world"), strings.Repeat("x", 5000000)} {
		checkDecode(t, none, frame, "", api.ErrFile)
		checkDecode(t, none, "", "", api.ErrFile)
		checkDecode(t, none, strings.Repeat("F", 1000), "", api.ErrFile)
		checkDecode(t, none, strings.Repeat("F", 1001), "", api.ErrLong)
	}
	checkDecode(t, file, strings.Repeat("F", 1000), "", api.ErrFrame)
	checkDecode(t, file, frame+strings.Repeat("F", 5000000), "", api.ErrLong)
}

// someBody makes a body as the dice fall: mostly one that can be played.
func someBody(d *dice, table, content string) string {
	letters := lettersOf(table)
	loose := d.text(letters, d.below(12))
	body := modelCount(len(loose)+d.below(20)/19) + "\x00" + loose
	if b, e := glossary.Squeeze(table, loose); e == api.OK && d.below(2) == 0 {
		body = modelCount(len(loose)+d.below(20)/19) + "\x01" + modelCount(len(b)) + b
	}
	copies := d.below(5)
	body += modelCount(copies + d.below(30)/29)
	laid, left := len(content), len(loose)
	for ; copies > 0; copies-- {
		ahead := d.below(left + 1)
		length := d.below(60)
		if d.below(10) == 0 {
			length = d.below(300)
		}
		laid += ahead
		left -= ahead
		body += modelCount(ahead+d.below(30)/29) + modelCount(length) + modelCount(1+d.below(laid)-d.below(60)/59)
		laid += length + api.MinCopy
	}
	return body
}

func TestP12DecodeAsTheModelSays(t *testing.T) {
	d := dice{state: 14}
	var seen [api.ErrKey + 1]int
	for i := 0; i < 20000; i++ {
		table := d.table()
		content := d.text(bytesFrom(0, 255), 1+d.below(200))
		file := modelFile(d.below(65536), table, content)
		body := someBody(&d, table, content)
		record, ok := modelPlay(table, content, body)
		if !ok || len(record) > api.MaxRecord {
			record = d.text("ab", d.below(20))
		}
		b := []byte(modelHeaded(file, 1, record, body))
		for n := d.below(5) - 2; n > 0; n-- {
			at := d.below(len(b))
			b[at] = byte(int(b[at]) + d.below(3) - 1)
		}
		want, e := modelDecode(file, string(b))
		seen[e]++
		checkDecode(t, file, string(b), want, e)
	}
	for _, e := range []api.Errno{api.OK, api.ErrFrame, api.ErrUnknown, api.ErrOther, api.ErrSum} {
		if seen[e] < 100 {
			t.Errorf("the answer %d was wanted only %d times", e, seen[e])
		}
	}
}

// Every body of up to six such bytes, by a small file: with the record that it tells, and with one of another length.
func TestP12AllShortBodies(t *testing.T) {
	file := modelFile(1, "a@", "xy")
	bodies := []string{""}
	for at := 0; len(bodies[at]) < 6; at++ {
		for _, next := range []string{"\x00", "\x01", "\x02", "\x03", "a", "\x80", "\x81"} {
			bodies = append(bodies, bodies[at]+next)
		}
	}
	played := 0
	for _, body := range bodies {
		record, ok := modelPlay("a@", "xy", body)
		if !ok || len(record) > api.MaxRecord {
			checkBody(t, file, body, "yyyy", api.ErrFrame)
			continue
		}
		played++
		checkBody(t, file, body, record, api.OK)
		checkBody(t, file, body, record+"a", api.ErrFrame)
	}
	if played < 100 {
		t.Errorf("only %d bodies could be played", played)
	}
}

// A frame in which one byte is another is refused, or it still tells the same record.
func TestP12FramesInWhichOneByteIsAnother(t *testing.T) {
	file := modelFile(77, "a b ", "0123456789 0123456789 abcdef")
	for _, record := range []string{"", "abba", "0123456789", "aabb0123456789abab56789", strings.Repeat("ab", 100), "X0123456789Y"} {
		frame, _ := glossary.Encode(file, record)
		checkDecode(t, file, frame, record, api.OK)
		for at := 0; at < len(frame); at++ {
			for other := 1; other < 256; other++ {
				b := []byte(frame)
				b[at] ^= byte(other)
				if got, e := glossary.Decode(file, string(b)); e == api.OK && got != record {
					t.Errorf("Decode(.., %q) = %q, want an error or %q", b, got, record)
				}
			}
			checkDecode(t, file, frame[:at], "", api.ErrFrame)
		}
	}
}
