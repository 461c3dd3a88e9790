// Package bindings: dictionaries that are bound to their ids, as many as there is room for.
package bindings

import "glossary/files"

// Bindings keeps of each id the file that is bound to it.
type Bindings struct {
	room  int
	bound []files.File
}

// Make makes room for so many files.
func Make(room int) Bindings {
	return Bindings{room: room}
}

// Bind binds a file to its id, in the place of the one that was; false, if there is no room for one more.
func (b *Bindings) Bind(f files.File) bool {
	at := b.find(f.Id)
	if at >= 0 {
		b.bound[at] = f
		return true
	}
	if len(b.bound) >= b.room {
		return false
	}
	b.bound = append(b.bound, f)
	return true
}

// Unbind lets go of the file of an id; false, if none is bound to it.
func (b *Bindings) Unbind(id int) bool {
	at := b.find(id)
	if at < 0 {
		return false
	}
	// A new row, so that nothing of the file is kept behind the end of the old one.
	var others []files.File
	for i := 0; i < len(b.bound); i++ {
		if i != at {
			others = append(others, b.bound[i])
		}
	}
	b.bound = others
	return true
}

// Of tells the file that is bound to an id; false, if none is.
func (b *Bindings) Of(id int) (files.File, bool) {
	at := b.find(id)
	if at < 0 {
		return files.File{}, false
	}
	return b.bound[at], true
}

// find tells the place of an id's file; -1, if none is bound to it.
func (b *Bindings) find(id int) int {
	for i := 0; i < len(b.bound); i++ {
		if b.bound[i].Id == id {
			return i
		}
	}
	return -1
}
