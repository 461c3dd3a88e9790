package glossary_test

import (
	"strings"
	"testing"

	"glossary/api"
	"glossary/glossary"
)

func checkCover(t *testing.T, text string, k, d, budget int, want string, wantErr api.Errno) {
	t.Helper()
	if got, e := glossary.Cover(text, k, d, budget); got != want || e != wantErr {
		t.Errorf("Cover(%.80q, %d, %d, %d) = %.80q, %d, want %.80q, %d", text, k, d, budget, got, e, want, wantErr)
	}
}

func TestP7CoverExamples(t *testing.T) {
	checkCover(t, "abcabcabd", 3, 3, 3, "abc", api.OK)
	checkCover(t, "abcabcabd", 3, 3, 6, "bcaabc", api.OK)
	checkCover(t, "abcabcabd", 3, 3, 7, "bbcaabc", api.OK)
	checkCover(t, "abcabcabd", 3, 3, 12, "abdcabbcaabc", api.OK)
	checkCover(t, "abcabcabd", 3, 3, 500, "abdcabbcaabc", api.OK)
	checkCover(t, "aaaa", 2, 1, 4, "aa", api.OK)
	checkCover(t, "ab", 3, 1, 4, "", api.ErrParam)
}

func TestP7CoverScores(t *testing.T) {
	// A piece that stands in a window twice counts there once.
	checkCover(t, "aaab", 2, 1, 2, "ab", api.OK)
	checkCover(t, "aabb", 2, 1, 2, "ab", api.OK)
	// Places may overlap: aaa stands at three places of aaaaa.
	checkCover(t, "xyzxyzaaaaa", 3, 3, 3, "aaa", api.OK)
	checkCover(t, "xyzxyzxyzaaaaa", 3, 3, 3, "xyz", api.OK)
	// A piece that stands in a window taken so far counts nowhere any more.
	checkCover(t, "abababcd", 2, 1, 4, "cdab", api.OK)
	// Of windows with the same score the first is taken.
	checkCover(t, "dcba", 1, 1, 4, "abcd", api.OK)
	checkCover(t, "abcdabcd", 4, 4, 4, "abcd", api.OK)
}

// What comes about where two windows meet in the content stands in none of them.
func TestP7CoverSeams(t *testing.T) {
	checkCover(t, "abcabcab", 2, 2, 4, "bcab", api.OK)
	checkCover(t, "abcabcab", 2, 2, 6, "cabcab", api.OK)
	checkCover(t, "abcabcab", 2, 2, 500, "cabcab", api.OK)
}

func TestP7CoverEdges(t *testing.T) {
	long := strings.Repeat("ab", api.MaxText/2)
	checkCover(t, "a", 1, 1, 1, "a", api.OK)
	checkCover(t, "a", 1, 1, api.MaxContent, "a", api.OK)
	checkCover(t, "\x00\xff", 2, 2, 2, "\x00\xff", api.OK)
	checkCover(t, "abc", 3, 1, 3, "abc", api.OK)
	checkCover(t, long, 500, 500, 500, long[:500], api.OK)
	checkCover(t, long[:500], 500, 1, 500, long[:500], api.OK)
	// The second window comes to one byte: the last of it.
	checkCover(t, strings.Repeat("a", 400)+strings.Repeat("b", 400), 499, 499, 500, "b"+strings.Repeat("a", 400)+strings.Repeat("b", 99), api.OK)
	checkCover(t, bytesFrom(0, 255), 2, 1, 3, "\x03\x00\x01", api.OK)
	checkCover(t, "", 1, 1, 1, "", api.ErrParam)
	checkCover(t, long+"a", 2, 1, 2, "", api.ErrLong)
	checkCover(t, strings.Repeat("ab", 4000000), 2, 1, 2, "", api.ErrLong)
}

func TestP7CoverNumbersThatMayNotBe(t *testing.T) {
	for _, c := range []struct{ k, d, budget int }{
		{2, 0, 4}, {2, -1, 4}, {2, -1 << 63, 4}, // d below 1
		{2, 3, 4}, {0, 1, 4}, {-1, 1, 4}, {-1 << 63, 1, 4}, {2, 1<<63 - 1, 4}, // k below d
		{3, 2, 2}, {2, 1, 0}, {2, 1, -1}, {2, 1, -1 << 63}, // budget below k
		{2, 1, 501}, {2, 1, 1<<63 - 1}, {1<<63 - 1, 1, 1<<63 - 1}, // budget above MaxContent
		{5, 1, 5}, {5, 5, 500}, {500, 1, 500}, // a text of fewer than k bytes
	} {
		checkCover(t, "abcd", c.k, c.d, c.budget, "", api.ErrParam)
		checkCover(t, strings.Repeat("a", 801), c.k, c.d, c.budget, "", api.ErrLong)
	}
	checkCover(t, "abcd", 4, 4, 4, "abcd", api.OK)
}

func TestP7CoverAsTheModelSays(t *testing.T) {
	d := dice{state: 7}
	for i := 0; i < 4000; i++ {
		letters := d.text(bytesFrom(0, 255), 1+d.below(8))
		text := d.text(letters, 1+d.below(60))
		if i%40 == 0 {
			text = d.text(letters, 700+d.below(101))
		}
		k := 1 + d.below(len(text))
		if i%2 == 0 {
			k = 1 + d.below(min(len(text), 9))
		}
		k = min(k, api.MaxContent)
		size := 1 + d.below(k)
		budget := k + d.below(api.MaxContent-k+1)
		if i%3 > 0 {
			budget = k + d.below(min(5*k, api.MaxContent-k)+1)
		}
		checkCover(t, text, k, size, budget, modelCover(text, k, size, budget), api.OK)
	}
}

// Every text of up to seven letters a and b, by all numbers that may be.
func TestP7CoverOfAllShortTexts(t *testing.T) {
	for n := 1; n <= 7; n++ {
		for bits := 0; bits < 1<<n; bits++ {
			text := ""
			for i := 0; i < n; i++ {
				text += string("ab"[bits>>i&1])
			}
			for k := 1; k <= n; k++ {
				for d := 1; d <= k; d++ {
					for budget := k; budget <= 3*k+1; budget++ {
						checkCover(t, text, k, d, budget, modelCover(text, k, d, budget), api.OK)
					}
				}
			}
		}
	}
}

func checkWrite(t *testing.T, id int, table, content, want string, wantErr api.Errno) {
	t.Helper()
	if got, e := glossary.Write(id, table, content); got != want || e != wantErr {
		t.Errorf("Write(%d, %.80q, %.40q) = %.80q, %d, want %.80q, %d", id, table, content, got, e, want, wantErr)
	}
}

func checkParse(t *testing.T, file string, id int, table, content string) {
	t.Helper()
	gotId, gotTable, gotContent, e := glossary.Parse(file)
	if gotId != id || gotTable != table || gotContent != content || e != api.OK {
		t.Errorf("Parse(%.80q) = %d, %.40q, %.40q, %d, want %d, %.40q, %.40q", file, gotId, gotTable, gotContent, e, id, table, content)
	}
}

func checkNoFile(t *testing.T, file string) {
	t.Helper()
	if id, table, content, e := glossary.Parse(file); id != 0 || table != "" || content != "" || e != api.ErrFile {
		t.Errorf("Parse(%.80q) = %d, %.40q, %.40q, %d, want ErrFile", file, id, table, content, e)
	}
}

func TestP8P9Examples(t *testing.T) {
	file := "GD\x01\x02\x01\x01a@\x02\x00xy\x17\x84\x35\x1d"
	checkWrite(t, 258, "a@", "xy", file, api.OK)
	checkParse(t, file, 258, "a@", "xy")
	checkWrite(t, 0, "a@", "", "", api.ErrParam)
	checkWrite(t, 0, "a?", "x", "", api.ErrTable)
}

func TestP8P9Edges(t *testing.T) {
	long := strings.Repeat("x", api.MaxContent)
	most := evenly(bytesFrom(192, 255), 1)
	for _, c := range []struct {
		id                 int
		table, content, in string
	}{
		{0, "a@", "x", "GD\x01\x00\x00\x01a@\x01\x00x"},
		{1, "a@", "\x00", "GD\x01\x01\x00\x01a@\x01\x00\x00"},
		{255, "a b ", "\xff", "GD\x01\xff\x00\x02a b \x01\x00\xff"},
		{256, "\x00@", "GD\x01", "GD\x01\x00\x01\x01\x00@\x03\x00GD\x01"},
		{65535, "\xff@", long, "GD\x01\xff\xff\x01\xff@\xf4\x01" + long},
		{32768, most, long[:256], "GD\x01\x00\x80\x40" + most + "\x00\x01" + long[:256]},
		{65280, most, long[:255], "GD\x01\x00\xff\x40" + most + "\xff\x00" + long[:255]},
		{7, most, long, "GD\x01\x07\x00\x40" + most + "\xf4\x01" + long},
	} {
		checkWrite(t, c.id, c.table, c.content, sealed(c.in), api.OK)
		checkParse(t, sealed(c.in), c.id, c.table, c.content)
	}
}

func TestP8WriteErrorsInOrder(t *testing.T) {
	long := strings.Repeat("x", api.MaxContent+1)
	checkWrite(t, 1, "a@", long, "", api.ErrLong)
	checkWrite(t, -1, "a@", long, "", api.ErrLong)
	checkWrite(t, 1, "", long, "", api.ErrLong)
	checkWrite(t, 65536, "", strings.Repeat("x", 5000000), "", api.ErrLong)
	for _, id := range []int{-1, 65536, -1 << 63, 1<<63 - 1, 1 << 32, 1<<32 + 1} {
		checkWrite(t, id, "a@", "x", "", api.ErrParam)
		checkWrite(t, id, "", "x", "", api.ErrParam)
		checkWrite(t, id, "", "", "", api.ErrParam)
	}
	for _, table := range noTables() {
		checkWrite(t, 1, table, "", "", api.ErrParam)
		checkWrite(t, 1, table, "x", "", api.ErrTable)
		checkWrite(t, 1, table, long, "", api.ErrLong)
	}
}

func TestP9WriteAndParse(t *testing.T) {
	d := dice{state: 8}
	for i := 0; i < 1000; i++ {
		id := d.below(api.MaxId + 1)
		table := d.table()
		content := d.text(bytesFrom(0, 255), 1+d.below(api.MaxContent))
		file := modelFile(id, table, content)
		checkWrite(t, id, table, content, file, api.OK)
		checkParse(t, file, id, table, content)
	}
}

// someFiles are small ones, a middling one and the greatest that can be.
func someFiles() []string {
	return []string{
		modelFile(258, "a@", "xy"), modelFile(0, "\x00@", "\x00"), modelFile(65535, "\x01\x01\xff?", "GD\x01\xff\xff"),
		modelFile(1, evenly(bytesFrom(0, 31), 2), strings.Repeat("abc", 90)),
		modelFile(513, evenly(bytesFrom(192, 255), 1), strings.Repeat("x", api.MaxContent)),
	}
}

func TestP9FilesInWhichOneByteIsAnother(t *testing.T) {
	for _, file := range someFiles() {
		for at := 0; at < len(file); at++ {
			for other := 1; other < 256; other++ {
				b := []byte(file)
				b[at] ^= byte(other)
				checkNoFile(t, string(b))
			}
		}
	}
}

func TestP9FilesThatEndTooEarlyOrTooLate(t *testing.T) {
	for _, file := range someFiles() {
		for end := 0; end < len(file); end++ {
			checkNoFile(t, file[:end])
			if end != len(file)-4 {
				checkNoFile(t, sealed(file[:end]))
			}
		}
		for _, more := range []string{"\x00", "x", "\x00\x00\x00\x00", file, strings.Repeat("x", 5000000)} {
			checkNoFile(t, file+more)
			checkNoFile(t, more+file)
			checkNoFile(t, sealed(file+more))
			checkNoFile(t, sealed(file[:len(file)-4]+more))
		}
	}
}

// The sum of these is right: so each is refused for what it says.
func TestP9TextsWithASumThatAreNoFiles(t *testing.T) {
	long := strings.Repeat("x", api.MaxContent)
	for _, s := range []string{
		"", "G", "GD", "GD\x01", "GD\x01\x02\x01", "GD\x01\x02\x01\x01", "GD\x01\x02\x01\x01a@", "GD\x01\x02\x01\x01a@\x02",
		"gD\x01\x02\x01\x01a@\x02\x00xy", "Gd\x01\x02\x01\x01a@\x02\x00xy", "DG\x01\x02\x01\x01a@\x02\x00xy", "GD\x00\x02\x01\x01a@\x02\x00xy", "GD\x02\x02\x01\x01a@\x02\x00xy", "GD1\x02\x01\x01a@\x02\x00xy",
		"GD\x01\x02\x01\x00a@\x02\x00xy", "GD\x01\x02\x01\x00\x02\x00xy", "GD\x01\x02\x01\x02a@\x02\x00xy", "GD\x01\x02\x01\xffa@\x02\x00xy", "GD\x01\x02\x01\x01a b \x02\x00xy",
		"GD\x01\x02\x01\x01a@\x00\x00", "GD\x01\x02\x01\x01a@\x01\x00xy", "GD\x01\x02\x01\x01a@\x03\x00xy", "GD\x01\x02\x01\x01a@\x00\x02xy", "GD\x01\x02\x01\x01a@\x02\x01xy", "GD\x01\x02\x01\x01a@\xff\xffxy",
		"GD\x01\x02\x01\x01a@\xf5\x01" + long + "x", "GD\x01\x02\x01\x01a@\xff\xff" + strings.Repeat("x", 65535),
	} {
		checkNoFile(t, sealed(s))
	}
	for _, table := range noTables() {
		checkNoFile(t, modelFile(258, table, "xy"))
	}
	checkNoFile(t, modelFile(258, evenly(bytesFrom(0, 127), 0), "xy"))
	checkNoFile(t, modelFile(258, "a@", long+"x"))
	checkNoFile(t, modelFile(258, "a@", ""))
}

func TestP9ParseAsTheModelSays(t *testing.T) {
	d := dice{state: 9}
	for i := 0; i < 6000; i++ {
		b := []byte(modelFile(d.below(65536), d.table(), d.text("ab", 1+d.below(20))))
		b = b[:len(b)-4]
		for n := d.below(3); n > 0; n-- {
			at := d.below(len(b))
			b[at] = byte(int(b[at]) + d.below(3) - 1)
		}
		file := sealed(string(b))
		id, table, content, ok := modelParse(file)
		if !ok {
			checkNoFile(t, file)
			continue
		}
		checkParse(t, file, id, table, content)
		checkWrite(t, id, table, content, file, api.OK)
	}
}

func checkTrain(t *testing.T, id int, text string, k, d, budget int, want string, wantErr api.Errno) {
	t.Helper()
	if got, e := glossary.Train(id, text, k, d, budget); got != want || e != wantErr {
		t.Errorf("Train(%d, %.80q, %d, %d, %d) = %.80q, %d, want %.80q, %d", id, text, k, d, budget, got, e, want, wantErr)
	}
}

func TestP10TrainOfSmallTexts(t *testing.T) {
	checkTrain(t, 0, "aaaa", 2, 1, 4, sealed("GD\x01\x00\x00\x01a@\x02\x00aa"), api.OK)
	checkTrain(t, 65535, "a", 1, 1, 1, sealed("GD\x01\xff\xff\x01a@\x01\x00a"), api.OK)
	checkTrain(t, 7, "abcabcabd", 3, 3, 6, sealed("GD\x01\x07\x00\x04a\x16b\x15c\x0ed\x07\x06\x00bcaabc"), api.OK)
}

func TestP10TrainErrorsInOrder(t *testing.T) {
	long := strings.Repeat("a", api.MaxText+1)
	checkTrain(t, 1, long, 2, 1, 4, "", api.ErrLong)
	checkTrain(t, -1, long, 2, 1, 4, "", api.ErrLong)
	checkTrain(t, 1, long, 0, 0, 0, "", api.ErrLong)
	for _, id := range []int{-1, 65536, -1 << 63, 1<<63 - 1, 1 << 32} {
		checkTrain(t, id, "aaaa", 2, 1, 4, "", api.ErrParam)
		checkTrain(t, id, "", 0, 0, 0, "", api.ErrParam)
	}
	for _, c := range []struct{ k, d, budget int }{{2, 0, 4}, {2, 3, 4}, {3, 1, 2}, {2, 1, 501}, {5, 1, 5}, {-1, -1, -1}, {1<<63 - 1, 1, 1<<63 - 1}} {
		checkTrain(t, 1, "aaaa", c.k, c.d, c.budget, "", api.ErrParam)
	}
	checkTrain(t, 1, "", 1, 1, 1, "", api.ErrParam)
}

func TestP10TrainIsWriteOfTableAndCover(t *testing.T) {
	d := dice{state: 10}
	for i := 0; i < 300; i++ {
		text := d.text(d.text(bytesFrom(0, 255), 1+d.below(60)), 1+d.below(api.MaxText))
		k := 1 + d.below(min(len(text), 30))
		size := 1 + d.below(k)
		budget := k + d.below(api.MaxContent-k+1)
		id := d.below(api.MaxId + 1)
		table, _ := glossary.Table(text)
		content, _ := glossary.Cover(text, k, size, budget)
		want := modelFile(id, table, content)
		checkTrain(t, id, text, k, size, budget, want, api.OK)
		checkParse(t, want, id, table, content)
	}
}
