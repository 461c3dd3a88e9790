package bindings

import (
	"testing"

	"glossary/files"
)

func file(id int, content string) files.File {
	return files.File{Id: id, Table: "a@", Content: content, Sum: id}
}

func checkOf(t *testing.T, b *Bindings, id int, want files.File, wantBound bool) {
	t.Helper()
	if got, isBound := b.Of(id); got != want || isBound != wantBound {
		t.Errorf("Of(%d) = %v, %v, want %v, %v", id, got, isBound, want, wantBound)
	}
}

func checkBind(t *testing.T, b *Bindings, f files.File, want bool) {
	t.Helper()
	if got := b.Bind(f); got != want {
		t.Errorf("Bind(%v) = %v", f, got)
	}
}

func checkUnbind(t *testing.T, b *Bindings, id int, want bool) {
	t.Helper()
	if got := b.Unbind(id); got != want {
		t.Errorf("Unbind(%d) = %v", id, got)
	}
}

func TestRoom(t *testing.T) {
	for room := 0; room <= 8; room++ {
		b := Make(room)
		for id := range room {
			checkBind(t, &b, file(id, "one"), true)
		}
		checkBind(t, &b, file(room, "one"), false)
		checkOf(t, &b, room, files.File{}, false)
		for id := range room {
			checkOf(t, &b, id, file(id, "one"), true)
			checkBind(t, &b, file(id, "two"), true)
			checkOf(t, &b, id, file(id, "two"), true)
		}
		checkBind(t, &b, file(room, "two"), false)
	}
}

// Whichever is let go of, the others stay, and there is room for one.
func TestUnbind(t *testing.T) {
	for gone := range 5 {
		b := Make(5)
		checkUnbind(t, &b, gone, false)
		for id := range 5 {
			checkBind(t, &b, file(id, "one"), true)
		}
		checkUnbind(t, &b, 5, false)
		checkUnbind(t, &b, -1, false)
		checkUnbind(t, &b, gone, true)
		checkUnbind(t, &b, gone, false)
		checkOf(t, &b, gone, files.File{}, false)
		for id := range 5 {
			if id != gone {
				checkOf(t, &b, id, file(id, "one"), true)
			}
		}
		checkBind(t, &b, file(9, "new"), true)
		checkOf(t, &b, 9, file(9, "new"), true)
		checkBind(t, &b, file(gone, "one"), false)
	}
}
