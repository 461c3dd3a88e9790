package glossary_test

import (
	"encoding/binary"
	"hash/fnv"
	"math/big"
	"sort"
	"strings"

	"glossary/api"
)

// What stands here says the document's words once more, slowly and in another way, so that the calls can be held against them.

// dice gives the same numbers in every run.
type dice struct{ state uint64 }

func (d *dice) below(n int) int {
	d.state = d.state*6364136223846793005 + 1442695040888963407
	return int((d.state >> 33) % uint64(n))
}

func (d *dice) text(letters string, n int) string {
	b := make([]byte, n)
	for i := range b {
		b[i] = letters[d.below(len(letters))]
	}
	return string(b)
}

// table makes any table: values and shares as the dice fall.
func (d *dice) table() string {
	pairs := 1 + d.below(64)
	if d.below(2) == 0 {
		pairs = 1 + d.below(5)
	}
	share := map[int]int{}
	for len(share) < pairs {
		share[d.below(256)] = 1
	}
	values := make([]int, 0, pairs)
	for v := range share {
		values = append(values, v)
	}
	sort.Ints(values)
	for left := 64 - pairs; left > 0; {
		part := 1 + d.below(left)
		share[values[d.below(pairs)]] += part
		left -= part
	}
	out := ""
	for _, v := range values {
		out += string([]byte{byte(v), byte(share[v])})
	}
	return out
}

func lettersOf(table string) string {
	out := ""
	for i := 0; i+1 < len(table); i += 2 {
		out += table[i : i+1]
	}
	return out
}

// bytesFrom gives the bytes from lo to hi.
func bytesFrom(lo, hi int) string {
	var b []byte
	for v := lo; v <= hi; v++ {
		b = append(b, byte(v))
	}
	return string(b)
}

// evenly gives each of these letters the same share.
func evenly(letters string, share byte) string {
	out := ""
	for i := 0; i < len(letters); i++ {
		out += letters[i:i+1] + string([]byte{share})
	}
	return out
}

func modelTable(text string) string {
	var values []int
	times := map[int]int{}
	for v := 0; v < 256; v++ {
		if n := strings.Count(text, string([]byte{byte(v)})); n > 0 {
			values = append(values, v)
			times[v] = n
		}
	}
	sort.SliceStable(values, func(i, j int) bool { return times[values[i]] > times[values[j]] })
	if len(values) > api.MaxValues {
		values = values[:api.MaxValues]
	}
	sort.Ints(values)
	share := map[int]int{}
	for _, v := range values {
		share[v] = 1
	}
	for total := len(values); total < 64; total++ {
		best, most := -1, new(big.Rat)
		for _, v := range values {
			if r := big.NewRat(int64(times[v]), int64(share[v])); best < 0 || r.Cmp(most) > 0 {
				best, most = v, r
			}
		}
		share[best]++
	}
	out := ""
	for _, v := range values {
		out += string([]byte{byte(v), byte(share[v])})
	}
	return out
}

// model tells of each slot its owner and its number.
type model struct {
	owner  [64]byte
	number [64]int
}

func modelOf(table string) *model {
	m := &model{}
	row := ""
	for i := 0; i+1 < len(table); i += 2 {
		row += strings.Repeat(table[i:i+1], int(table[i+1]))
	}
	for i := 0; i < 64; i++ {
		m.owner[(43*i)%64] = row[i]
	}
	owners := string(m.owner[:])
	for slot := range m.number {
		value := owners[slot : slot+1]
		m.number[slot] = strings.Count(row, value) + strings.Count(owners[:slot], value)
	}
	return m
}

// read tells the n bytes of a stream; false, if it is none.
func (m *model) read(stream string, n int) (string, bool) {
	bits := ""
	for i := 0; i < len(stream); i++ {
		for mask := 128; mask > 0; mask /= 2 {
			if int(stream[i])&mask != 0 {
				bits += "1"
			} else {
				bits += "0"
			}
		}
	}
	end := strings.LastIndex(bits, "1")
	if end < 6 || len(bits)-end > 8 {
		return "", false
	}
	bits = bits[:end]
	slot := 0
	for _, b := range bits[:6] {
		slot = slot*2 + int(b-'0')
	}
	bits = bits[6:]
	var out []byte
	for ; n > 0; n-- {
		out = append(out, m.owner[slot])
		number := m.number[slot]
		for number < 64 {
			if bits == "" {
				return "", false
			}
			number = number*2 + int(bits[0]-'0')
			bits = bits[1:]
		}
		slot = number - 64
	}
	return string(out), slot == 0 && bits == ""
}

// modelCover takes windows as texts, and asks of each piece anew where it stands.
func modelCover(text string, k, d, budget int) string {
	places := map[string]int{}
	for i := 0; i+d <= len(text); i++ {
		places[text[i:i+d]]++
	}
	var taken []string
	content := ""
	for len(content) < budget {
		best, most := "", 0
		for start := 0; start+k <= len(text); start++ {
			window := text[start : start+k]
			if score := modelScore(window, d, places, taken); score > most {
				best, most = window, score
			}
		}
		if most == 0 {
			break
		}
		taken = append(taken, best)
		content = best + content
	}
	// Only the window taken last can be too much, and it stands ahead.
	if len(content) > budget {
		content = content[len(content)-budget:]
	}
	return content
}

func modelScore(window string, d int, places map[string]int, taken []string) int {
	score := 0
	counted := map[string]bool{}
	for i := 0; i+d <= len(window); i++ {
		piece := window[i : i+d]
		if counted[piece] {
			continue
		}
		counted[piece] = true
		stands := false
		for _, w := range taken {
			stands = stands || strings.Contains(w, piece)
		}
		if !stands {
			score += places[piece]
		}
	}
	return score
}

// low writes a number into so many bytes.
func low(n, size int) string {
	b := make([]byte, 8)
	binary.LittleEndian.PutUint64(b, uint64(n))
	return string(b[:size])
}

// sealed is a text with its sum behind it.
func sealed(s string) string {
	h := fnv.New32a()
	h.Write([]byte(s))
	return s + low(int(h.Sum32()), 4)
}

func modelFile(id int, table, content string) string {
	return sealed("GD\x01" + low(id, 2) + low(len(table)/2, 1) + table + low(len(content), 2) + content)
}

// modelParse tries every id, table and content that could be meant; false, if none has this file.
func modelParse(file string) (id int, table, content string, ok bool) {
	for pairs := 1; pairs <= 64; pairs++ {
		end := len(file) - 4
		at := 6 + 2*pairs
		if at+2 >= end || end-at-2 > api.MaxContent {
			continue
		}
		id = int(file[3]) + 256*int(file[4])
		table = file[6:at]
		content = file[at+2 : end]
		if modelIsTable(table) && modelFile(id, table, content) == file {
			return id, table, content, true
		}
	}
	return 0, "", "", false
}

func modelIsTable(table string) bool {
	total := 0
	for i := 0; i+1 < len(table); i += 2 {
		if table[i+1] < 1 || table[i+1] > 64 || i > 0 && table[i] <= table[i-2] {
			return false
		}
		total += int(table[i+1])
	}
	return total == 64 && len(table)%2 == 0
}
