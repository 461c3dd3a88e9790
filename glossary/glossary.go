// Package glossary: short records, packed by a dictionary that they share: see DOC.md.
package glossary

import (
	"glossary/api"
	"glossary/bindings"
	"glossary/covers"
	"glossary/files"
	"glossary/frames"
	"glossary/shares"
	"glossary/shelves"
	"glossary/streams"
	"glossary/sums"
)

// Store keeps dictionaries by their ids, and frames by their keys.
type Store struct {
	bound bindings.Bindings
	shelf shelves.Shelf
}

// Sum tells a text's checksum (P3).
func Sum(s string) int {
	return sums.Of(s)
}

// Table gives the bytes of a text their shares (P4).
func Table(text string) (string, api.Errno) {
	if len(text) > api.MaxText {
		return "", api.ErrLong
	}
	if len(text) == 0 {
		return "", api.ErrParam
	}
	return shares.Learn(text), api.OK
}

// Squeeze writes bytes as a stream (P5).
func Squeeze(table string, s string) (string, api.Errno) {
	if len(s) > api.MaxRecord {
		return "", api.ErrLong
	}
	layout, isTable := shares.Lay(table)
	if !isTable {
		return "", api.ErrTable
	}
	stream, allShared := streams.Write(&layout, s)
	if !allShared {
		return "", api.ErrByte
	}
	return stream, api.OK
}

// Unsqueeze reads a stream (P6).
func Unsqueeze(table string, stream string, n int) (string, api.Errno) {
	if len(stream) > api.MaxFrame {
		return "", api.ErrLong
	}
	if n < 0 || n > api.MaxRecord {
		return "", api.ErrParam
	}
	layout, isTable := shares.Lay(table)
	if !isTable {
		return "", api.ErrTable
	}
	s, isStream := streams.Read(&layout, stream, n)
	if !isStream {
		return "", api.ErrStream
	}
	return s, api.OK
}

// Cover makes a dictionary's content out of a text (P7).
func Cover(text string, k int, d int, budget int) (string, api.Errno) {
	errno := coverErrno(text, k, d, budget)
	if errno != api.OK {
		return "", errno
	}
	return covers.Make(text, k, d, budget), api.OK
}

// coverErrno tells why no content can be made so: for Train refuses what Cover refuses.
func coverErrno(text string, k int, d int, budget int) api.Errno {
	if len(text) > api.MaxText {
		return api.ErrLong
	}
	if d < 1 || k < d || budget < k || budget > api.MaxContent || len(text) < k {
		return api.ErrParam
	}
	return api.OK
}

// Write makes a dictionary's file (P8).
func Write(id int, table string, content string) (string, api.Errno) {
	if len(content) > api.MaxContent {
		return "", api.ErrLong
	}
	if !isId(id) || len(content) == 0 {
		return "", api.ErrParam
	}
	if !shares.IsTable(table) {
		return "", api.ErrTable
	}
	return files.Write(id, table, content), api.OK
}

func isId(id int) bool {
	return id >= 0 && id <= api.MaxId
}

// Parse tells what a dictionary's file says: the id, the table, the content (P9).
func Parse(file string) (int, string, string, api.Errno) {
	f, isFile := files.Read(file)
	if !isFile {
		return 0, "", "", api.ErrFile
	}
	return f.Id, f.Table, f.Content, api.OK
}

// Train learns a dictionary from a text (P10).
func Train(id int, text string, k int, d int, budget int) (string, api.Errno) {
	errno := coverErrno(text, k, d, budget)
	if errno != api.OK {
		return "", errno
	}
	if !isId(id) {
		return "", api.ErrParam
	}
	table := shares.Learn(text)
	content := covers.Make(text, k, d, budget)
	return files.Write(id, table, content), api.OK
}

// Encode packs a record into a frame (P11).
func Encode(file string, record string) (string, api.Errno) {
	if len(record) > api.MaxRecord {
		return "", api.ErrLong
	}
	f, isFile := files.Read(file)
	if !isFile {
		return "", api.ErrFile
	}
	return frames.Write(&f, record), api.OK
}

// Decode gives a frame's record back (P12).
func Decode(file string, frame string) (string, api.Errno) {
	if len(frame) > api.MaxFrame {
		return "", api.ErrLong
	}
	f, isFile := files.Read(file)
	if !isFile {
		return "", api.ErrFile
	}
	head, isHead := frames.ReadHead(frame)
	if !isHead {
		return "", api.ErrFrame
	}
	if head.Id != f.Id {
		return "", api.ErrUnknown
	}
	return open(&f, &head, frame)
}

// open gives the record of a frame whose head names this file's id: for Get opens frames as Decode does.
func open(f *files.File, head *frames.Head, frame string) (string, api.Errno) {
	if head.FileSum != f.Sum {
		return "", api.ErrOther
	}
	record, isBody := frames.ReadBody(f, head, frame)
	if !isBody {
		return "", api.ErrFrame
	}
	if sums.Of(record) != head.Sum {
		return "", api.ErrSum
	}
	return record, api.OK
}

// New makes a store with room for so many dictionaries (P13).
func New(room int) (*Store, api.Errno) {
	if room < 1 || room > api.MaxRoom {
		return nil, api.ErrParam
	}
	return &Store{bound: bindings.Make(room)}, api.OK
}

// Register binds a file to its id (P13).
func (s *Store) Register(file string) (int, api.Errno) {
	f, isFile := files.Read(file)
	if !isFile {
		return 0, api.ErrFile
	}
	hasRoom := s.bound.Bind(f)
	if !hasRoom {
		return 0, api.ErrFull
	}
	return f.Id, api.OK
}

// Remove unbinds an id (P13).
func (s *Store) Remove(id int) api.Errno {
	wasBound := s.bound.Unbind(id)
	if !wasBound {
		return api.ErrUnknown
	}
	return api.OK
}

// Put lays a record's frame under a key (P14).
func (s *Store) Put(key string, record string, id int) (int, api.Errno) {
	if !isKey(key) {
		return 0, api.ErrKey
	}
	if len(record) > api.MaxRecord {
		return 0, api.ErrLong
	}
	f, isBound := s.bound.Of(id)
	if !isBound {
		return 0, api.ErrUnknown
	}
	frame := frames.Write(&f, record)
	s.shelf.Lay(key, frame)
	return len(frame), api.OK
}

func isKey(key string) bool {
	return len(key) >= 1 && len(key) <= api.MaxKey
}

// Plant lays any bytes under a key (P14).
func (s *Store) Plant(key string, frame string) api.Errno {
	if !isKey(key) {
		return api.ErrKey
	}
	if len(frame) > api.MaxFrame {
		return api.ErrLong
	}
	s.shelf.Lay(key, frame)
	return api.OK
}

// Get gives the record under a key (P15).
func (s *Store) Get(key string) (string, api.Errno) {
	frame, lies := s.shelf.Look(key)
	if !lies {
		return "", api.ErrKey
	}
	head, isHead := frames.ReadHead(frame)
	if !isHead {
		return "", api.ErrFrame
	}
	f, isBound := s.bound.Of(head.Id)
	if !isBound {
		return "", api.ErrUnknown
	}
	return open(&f, &head, frame)
}

// Frame tells what lies under a key (P15).
func (s *Store) Frame(key string) (string, api.Errno) {
	frame, lies := s.shelf.Look(key)
	if !lies {
		return "", api.ErrKey
	}
	return frame, api.OK
}
