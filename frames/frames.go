// Package frames: records written as frames by a dictionary's file, and read back.
package frames

import (
	"glossary/api"
	"glossary/bodies"
	"glossary/files"
	"glossary/numbers"
	"glossary/sums"
)

// mark is what every frame begins with.
const mark = "F"

// The byte that tells what the body is.
const (
	plain  = 0
	packed = 1
)

// Where the parts of a head begin: each reaches up to the next one, the last up to the body.
const (
	howAt     = len(mark)
	idAt      = howAt + 1
	fileSumAt = idAt + 2
	sizeAt    = fileSumAt + 4
	sumAt     = sizeAt + 2
)

// Head is what a frame's head says.
type Head struct {
	Packed  bool
	Id      int
	FileSum int
	Size    int
	Sum     int
}

// Write makes the frame of a record that may be in one: packed, if that is shorter.
func Write(f *files.File, record string) string {
	how := plain
	body := record
	short := bodies.Write(f.Table, f.Content, record)
	if len(short) < len(record) {
		how = packed
		body = short
	}
	return writeHead(f, record, how) + body
}

func writeHead(f *files.File, record string, how int) string {
	head := mark
	head += numbers.Write(how, idAt-howAt)
	head += numbers.Write(f.Id, fileSumAt-idAt)
	head += numbers.Write(f.Sum, sizeAt-fileSumAt)
	head += numbers.Write(len(record), sumAt-sizeAt)
	sum := sums.Of(record)
	return head + numbers.Write(sum, api.Head-sumAt)
}

// ReadHead tells what the head of a frame says; false, if the text does not begin with a head.
func ReadHead(frame string) (Head, bool) {
	if len(frame) < api.Head || frame[:howAt] != mark || frame[howAt] > packed {
		return Head{}, false
	}
	size := numbers.Read(frame[sizeAt:sumAt])
	if size > api.MaxRecord {
		return Head{}, false
	}
	return Head{
		Packed:  frame[howAt] == packed,
		Id:      numbers.Read(frame[idAt:fileSumAt]),
		FileSum: numbers.Read(frame[fileSumAt:sizeAt]),
		Size:    size,
		Sum:     numbers.Read(frame[sumAt:api.Head]),
	}, true
}

// ReadBody tells the record that the body behind this head tells; false, if it is none.
func ReadBody(f *files.File, h *Head, frame string) (string, bool) {
	if len(frame) < api.Head {
		return "", false
	}
	body := frame[api.Head:]
	if h.Packed {
		return bodies.Read(f.Table, f.Content, body, h.Size)
	}
	if len(body) != h.Size {
		return "", false
	}
	return body, true
}
