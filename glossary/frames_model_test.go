package glossary_test

import (
	"strings"

	"glossary/api"
	"glossary/glossary"
)

// What the document says of frames, once more, slowly and in another way.

func modelCount(n int) string {
	if n < 128 {
		return low(n, 1)
	}
	return low(128+n%128, 1) + low(n/128, 1)
}

// allCounts tells of each text that is a count which one it is.
var allCounts = func() map[string]int {
	out := map[string]int{}
	for n := 0; n <= 16383; n++ {
		out[modelCount(n)] = n
	}
	return out
}()

// modelHeaded is a frame by a file, with any record and any body.
func modelHeaded(file string, how int, record, body string) string {
	return "F" + low(how, 1) + file[3:5] + file[len(file)-4:] + low(len(record), 2) + sealed(record)[len(record):] + body
}

// again tells the bytes of a copy: as what it copies comes again and again, if it runs into itself.
func again(behind string, length, distance int) string {
	tail := behind[len(behind)-distance:]
	return strings.Repeat(tail, length/distance+1)[:length]
}

// modelCopy tells the longest copy of which the rest of a record could begin, and its distance.
func modelCopy(behind, rest string) (int, int) {
	most, nearest := 0, 0
	// From the farthest on, and an equally long one takes the place: so the nearest is left.
	for distance := len(behind); distance >= 1; distance-- {
		same := again(behind, len(rest), distance)
		n := 0
		for n < len(rest) && same[n] == rest[n] {
			n++
		}
		if n >= most {
			most, nearest = n, distance
		}
	}
	return most, nearest
}

func modelBody(table, content, record string) string {
	loose, copies := "", ""
	ahead, n := 0, 0
	rest := record
	for rest != "" {
		length, distance := modelCopy(content+strings.TrimSuffix(record, rest), rest)
		if length < 4 {
			loose += rest[:1]
			ahead++
			rest = rest[1:]
			continue
		}
		copies += modelCount(ahead) + modelCount(length-4) + modelCount(distance)
		n++
		ahead = 0
		rest = rest[length:]
	}
	written := "\x00" + loose
	if b, e := glossary.Squeeze(table, loose); e == api.OK {
		if squeezed := "\x01" + modelCount(len(b)) + b; len(squeezed) < len(written) {
			written = squeezed
		}
	}
	return modelCount(len(loose)) + written + modelCount(n) + copies
}

func modelEncode(file, record string) string {
	_, table, content, _ := modelParse(file)
	plain := modelHeaded(file, 0, record, record)
	packed := modelHeaded(file, 1, record, modelBody(table, content, record))
	if len(packed) < len(plain) {
		return packed
	}
	return plain
}

// cursor reads a body from its beginning on; once it has stumbled it stays so.
type cursor struct {
	rest  string
	wrong bool
}

func (c *cursor) text(n int) string {
	if c.wrong || n > len(c.rest) {
		c.wrong = true
		return ""
	}
	out := c.rest[:n]
	c.rest = c.rest[n:]
	return out
}

func (c *cursor) count() int {
	for size := 1; size <= 2 && size <= len(c.rest); size++ {
		if n, ok := allCounts[c.rest[:size]]; ok {
			c.text(size)
			return n
		}
	}
	c.wrong = true
	return 0
}

// modelPlay tells what a body of a packed frame lays behind the content; false, if it is no body.
func modelPlay(table, content, body string) (string, bool) {
	c := &cursor{rest: body}
	n := c.count()
	loose := ""
	switch c.text(1) {
	case "\x00":
		loose = c.text(n)
	case "\x01":
		s, ok := modelOf(table).read(c.text(c.count()), n)
		loose = s
		c.wrong = c.wrong || !ok
	default:
		return "", false
	}
	laid := content
	for copies := c.count(); copies > 0 && !c.wrong; copies-- {
		ahead, length, distance := c.count(), c.count()+4, c.count()
		if c.wrong || ahead > len(loose) {
			return "", false
		}
		laid += loose[:ahead]
		loose = loose[ahead:]
		if distance == 0 || distance > len(laid) {
			return "", false
		}
		laid += again(laid, length, distance)
	}
	return (laid + loose)[len(content):], !c.wrong && c.rest == ""
}

func modelHasHead(frame string) bool {
	if len(frame) < 14 || !strings.HasPrefix(frame, "F\x00") && !strings.HasPrefix(frame, "F\x01") {
		return false
	}
	return modelSize(frame) <= 500
}

func modelSize(frame string) int {
	return int(frame[8]) + 256*int(frame[9])
}

// modelDecode tells what a frame of at most MaxFrame bytes says by a file.
func modelDecode(file, frame string) (string, api.Errno) {
	_, table, content, ok := modelParse(file)
	if !ok {
		return "", api.ErrFile
	}
	if !modelHasHead(frame) {
		return "", api.ErrFrame
	}
	if frame[2:4] != file[3:5] {
		return "", api.ErrUnknown
	}
	if frame[4:8] != file[len(file)-4:] {
		return "", api.ErrOther
	}
	record := frame[14:]
	if frame[1] == 1 {
		if record, ok = modelPlay(table, content, frame[14:]); !ok {
			return "", api.ErrFrame
		}
	}
	if len(record) != modelSize(frame) {
		return "", api.ErrFrame
	}
	if sealed(record) != record+frame[10:14] {
		return "", api.ErrSum
	}
	return record, api.OK
}
