// Package files: dictionaries written as files, and read back.
package files

import (
	"glossary/api"
	"glossary/numbers"
	"glossary/shares"
	"glossary/sums"
)

// mark is what every file begins with.
const mark = "GD\x01"

// How many bytes the numbers of a file have.
const (
	idSize     = 2
	pairsSize  = 1
	lengthSize = 2
	sumSize    = 4
)

// tableAt is where the table begins.
const tableAt = len(mark) + idSize + pairsSize

// File is what a file says; Sum is the file's sum.
type File struct {
	Id      int
	Table   string
	Content string
	Sum     int
}

// Write makes the file of an id, a table and a content that may be in one.
func Write(id int, table string, content string) string {
	file := mark
	file += numbers.Write(id, idSize)
	file += numbers.Write(len(table)/2, pairsSize)
	file += table
	file += numbers.Write(len(content), lengthSize)
	file += content
	sum := sums.Of(file)
	return file + numbers.Write(sum, sumSize)
}

// Read tells what a file says; false, if the text is no file.
func Read(file string) (File, bool) {
	if len(file) < tableAt || file[:len(mark)] != mark {
		return File{}, false
	}
	id := numbers.Read(file[len(mark) : len(mark)+idSize])
	pairs := int(file[tableAt-pairsSize])
	tableEnd := tableAt + 2*pairs
	contentAt := tableEnd + lengthSize
	if len(file) < contentAt {
		return File{}, false
	}
	table := file[tableAt:tableEnd]
	length := numbers.Read(file[tableEnd:contentAt])
	contentEnd := contentAt + length
	if !shares.IsTable(table) || length < 1 || length > api.MaxContent || len(file) != contentEnd+sumSize {
		return File{}, false
	}
	// The sum is tried last, when the text is known to be no longer than a file can be.
	sum := sums.Of(file[:contentEnd])
	if numbers.Read(file[contentEnd:]) != sum {
		return File{}, false
	}
	return File{Id: id, Table: table, Content: file[contentAt:contentEnd], Sum: sum}, true
}
