// Package glossary: short records, packed by a dictionary that they share: see DOC.md.
package glossary

import (
	"glossary/api"
	"glossary/shares"
	"glossary/streams"
	"glossary/sums"
)

// Store keeps dictionaries by their ids, and frames by their keys.
type Store struct{}

// Sum tells a text's checksum (P3).
func Sum(s string) int {
	return sums.Of(s)
}

// Table gives the bytes of a text their shares (P4).
func Table(text string) (string, api.Errno) {
	if len(text) > api.MaxText {
		return "", api.ErrLong
	}
	if len(text) == 0 {
		return "", api.ErrParam
	}
	return shares.Learn(text), api.OK
}

// Squeeze writes bytes as a stream (P5).
func Squeeze(table string, s string) (string, api.Errno) {
	if len(s) > api.MaxRecord {
		return "", api.ErrLong
	}
	layout, isTable := shares.Lay(table)
	if !isTable {
		return "", api.ErrTable
	}
	stream, allShared := streams.Write(&layout, s)
	if !allShared {
		return "", api.ErrByte
	}
	return stream, api.OK
}

// Unsqueeze reads a stream (P6).
func Unsqueeze(table string, stream string, n int) (string, api.Errno) {
	if len(stream) > api.MaxFrame {
		return "", api.ErrLong
	}
	if n < 0 || n > api.MaxRecord {
		return "", api.ErrParam
	}
	layout, isTable := shares.Lay(table)
	if !isTable {
		return "", api.ErrTable
	}
	s, isStream := streams.Read(&layout, stream, n)
	if !isStream {
		return "", api.ErrStream
	}
	return s, api.OK
}

// Cover makes a dictionary's content out of a text (P7).
func Cover(text string, k int, d int, budget int) (string, api.Errno) { return "", api.OK }

// Write makes a dictionary's file (P8).
func Write(id int, table string, content string) (string, api.Errno) { return "", api.OK }

// Parse tells what a dictionary's file says: the id, the table, the content (P9).
func Parse(file string) (int, string, string, api.Errno) { return 0, "", "", api.OK }

// Train learns a dictionary from a text (P10).
func Train(id int, text string, k int, d int, budget int) (string, api.Errno) { return "", api.OK }

// Encode packs a record into a frame (P11).
func Encode(file string, record string) (string, api.Errno) { return "", api.OK }

// Decode gives a frame's record back (P12).
func Decode(file string, frame string) (string, api.Errno) { return "", api.OK }

// New makes a store with room for so many dictionaries (P13).
func New(room int) (*Store, api.Errno) { return nil, api.OK }

// Register binds a file to its id (P13).
func (s *Store) Register(file string) (int, api.Errno) { return 0, api.OK }

// Remove unbinds an id (P13).
func (s *Store) Remove(id int) api.Errno { return api.OK }

// Put lays a record's frame under a key (P14).
func (s *Store) Put(key string, record string, id int) (int, api.Errno) { return 0, api.OK }

// Plant lays any bytes under a key (P14).
func (s *Store) Plant(key string, frame string) api.Errno { return api.OK }

// Get gives the record under a key (P15).
func (s *Store) Get(key string) (string, api.Errno) { return "", api.OK }

// Frame tells what lies under a key (P15).
func (s *Store) Frame(key string) (string, api.Errno) { return "", api.OK }
