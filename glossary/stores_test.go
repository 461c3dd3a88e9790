package glossary_test

import (
	"fmt"
	"strings"
	"testing"

	"glossary/api"
	"glossary/glossary"
)

func newStore(t *testing.T, room int) *glossary.Store {
	t.Helper()
	s, e := glossary.New(room)
	if s == nil || e != api.OK {
		t.Fatalf("New(%d) = %v, %d", room, s, e)
	}
	return s
}

func checkRegister(t *testing.T, s *glossary.Store, file string, want int, wantErr api.Errno) {
	t.Helper()
	if got, e := s.Register(file); got != want || e != wantErr {
		t.Errorf("Register(%.40q) = %d, %d, want %d, %d", file, got, e, want, wantErr)
	}
}

func checkRemove(t *testing.T, s *glossary.Store, id int, want api.Errno) {
	t.Helper()
	if e := s.Remove(id); e != want {
		t.Errorf("Remove(%d) = %d, want %d", id, e, want)
	}
}

func checkPut(t *testing.T, s *glossary.Store, key, record string, id, want int, wantErr api.Errno) {
	t.Helper()
	if got, e := s.Put(key, record, id); got != want || e != wantErr {
		t.Errorf("Put(%.20q, %.40q, %d) = %d, %d, want %d, %d", key, record, id, got, e, want, wantErr)
	}
}

func checkPlant(t *testing.T, s *glossary.Store, key, frame string, want api.Errno) {
	t.Helper()
	if e := s.Plant(key, frame); e != want {
		t.Errorf("Plant(%.20q, %.40q) = %d, want %d", key, frame, e, want)
	}
}

func checkGet(t *testing.T, s *glossary.Store, key, want string, wantErr api.Errno) {
	t.Helper()
	if got, e := s.Get(key); got != want || e != wantErr {
		t.Errorf("Get(%.20q) = %.40q, %d, want %.40q, %d", key, got, e, want, wantErr)
	}
}

func checkFrame(t *testing.T, s *glossary.Store, key, want string, wantErr api.Errno) {
	t.Helper()
	if got, e := s.Frame(key); got != want || e != wantErr {
		t.Errorf("Frame(%.20q) = %.60q, %d, want %.60q, %d", key, got, e, want, wantErr)
	}
}

// noKeys are too short or too long.
func noKeys() []string {
	return []string{"", "123456789", strings.Repeat("\x00", 9), strings.Repeat("k", 1000000)}
}

// goodKeys are as short and as long as may be, and such as could be taken for each other.
func goodKeys() []string {
	return []string{"k", "K", "\x00", "\x00\x00", "k\x00", "kk", "\xff", "1234567", "12345678", "12345679", strings.Repeat("\x00", 8)}
}

func TestP13New(t *testing.T) {
	for _, room := range []int{-1 << 63, -8, -1, 0, api.MaxRoom + 1, 1<<63 - 1} {
		if s, e := glossary.New(room); s != nil || e != api.ErrParam {
			t.Errorf("New(%d) = %v, %d", room, s, e)
		}
	}
	for room := 1; room <= api.MaxRoom; room++ {
		s := newStore(t, room)
		for _, id := range []int{0, 1, 2, room, 65535} {
			checkRemove(t, s, id, api.ErrUnknown)
			checkPut(t, s, "k", "hello", id, 0, api.ErrUnknown)
		}
		for _, key := range goodKeys() {
			checkFrame(t, s, key, "", api.ErrKey)
			checkGet(t, s, key, "", api.ErrKey)
		}
	}
}

func TestP13TheDocumentsExample(t *testing.T) {
	first := helloFile()
	s := newStore(t, 1)
	checkRegister(t, s, first, 1, api.OK)
	checkPut(t, s, "k", "hello world", 1, 20, api.OK)
	checkRegister(t, s, modelFile(2, "a@", "hello world"), 0, api.ErrFull)
	checkRegister(t, s, modelFile(1, "a@", "hello there"), 1, api.OK)
	checkGet(t, s, "k", "", api.ErrOther)
	checkRegister(t, s, first, 1, api.OK)
	checkGet(t, s, "k", "hello world", api.OK)
}

func TestP13Room(t *testing.T) {
	// The least id, the greatest, and such as have a byte in common.
	ids := []int{0, 65535, 256, 257, 513, 2, 65280, 512}
	for room := 1; room <= api.MaxRoom; room++ {
		s := newStore(t, room)
		for _, id := range ids[:room] {
			checkRegister(t, s, modelFile(id, "a@", "one"), id, api.OK)
		}
		for _, id := range append([]int{1, 255, 65534}, ids[room:]...) {
			checkRegister(t, s, modelFile(id, "a@", "one"), 0, api.ErrFull)
			checkRemove(t, s, id, api.ErrUnknown)
		}
		for _, id := range ids[:room] {
			checkPut(t, s, "k", "a record", id, 22, api.OK)
			checkRegister(t, s, modelFile(id, "a@", "another"), id, api.OK)
			checkGet(t, s, "k", "", api.ErrOther)
			checkRegister(t, s, modelFile(1, "a@", "one"), 0, api.ErrFull)
		}
		for _, id := range ids[:room] {
			checkRemove(t, s, id, api.OK)
			checkRemove(t, s, id, api.ErrUnknown)
			checkPut(t, s, "k", "a record", id, 0, api.ErrUnknown)
			checkRegister(t, s, modelFile(1, "a@", "one"), 1, api.OK)
			checkRegister(t, s, modelFile(id, "a@", "one"), 0, api.ErrFull)
			checkRemove(t, s, 1, api.OK)
			checkRegister(t, s, modelFile(id, "a@", "one"), id, api.OK)
		}
	}
}

func TestP13WhatIsNoFile(t *testing.T) {
	file := helloFile()
	full, roomy := newStore(t, 1), newStore(t, 8)
	checkRegister(t, full, modelFile(9, "a@", "x"), 9, api.OK)
	for _, none := range []string{"", "GD\x01", file[1:], file[:len(file)-1], file + "x", modelFile(1, "a?", "x"), modelFile(1, "a@", ""), modelFile(9, "a@", strings.Repeat("x", 501)), strings.Repeat("G", 5000000)} {
		checkRegister(t, full, none, 0, api.ErrFile)
		checkRegister(t, roomy, none, 0, api.ErrFile)
	}
	checkRemove(t, roomy, 1, api.ErrUnknown)
	checkRemove(t, full, 9, api.OK)
}

func TestP13NoSuchId(t *testing.T) {
	s := newStore(t, 2)
	checkRegister(t, s, modelFile(0, "a@", "x"), 0, api.OK)
	for _, id := range []int{-1 << 63, -65536, -1, 1, 256, 65535, 65536, 131072, 1 << 32, 1<<63 - 1} {
		checkRemove(t, s, id, api.ErrUnknown)
		checkPut(t, s, "k", "x", id, 0, api.ErrUnknown)
	}
	checkFrame(t, s, "k", "", api.ErrKey)
	checkRemove(t, s, 0, api.OK)
}

func TestP14Put(t *testing.T) {
	file := helloFile()
	s := newStore(t, 1)
	checkRegister(t, s, file, 1, api.OK)
	for _, key := range goodKeys() {
		checkFrame(t, s, key, "", api.ErrKey)
		for _, record := range []string{key, "", "hello", "hello world", "aaaaaaaaaaaaaaaa", strange(500), strings.Repeat("a", 500), "last of " + key} {
			want := modelEncode(file, record)
			checkPut(t, s, key, record, 1, len(want), api.OK)
			checkFrame(t, s, key, want, api.OK)
			checkGet(t, s, key, record, api.OK)
		}
	}
	for _, key := range goodKeys() {
		checkGet(t, s, key, "last of "+key, api.OK)
	}
}

func TestP14PutByTheFileThatIsBound(t *testing.T) {
	first, second, third := modelFile(1, "a b ", "0123456789"), modelFile(2, "a@", "abcdefghij"), modelFile(1, "a@", "abcdefghij")
	s := newStore(t, 2)
	checkRegister(t, s, first, 1, api.OK)
	checkRegister(t, s, second, 2, api.OK)
	for _, record := range []string{"0123456789", "abcdefghij", "abbaabbabaabbaab"} {
		checkPut(t, s, "1", record, 1, len(modelEncode(first, record)), api.OK)
		checkPut(t, s, "2", record, 2, len(modelEncode(second, record)), api.OK)
		checkFrame(t, s, "1", modelEncode(first, record), api.OK)
		checkFrame(t, s, "2", modelEncode(second, record), api.OK)
		checkRegister(t, s, third, 1, api.OK)
		checkPut(t, s, "3", record, 1, len(modelEncode(third, record)), api.OK)
		checkFrame(t, s, "1", modelEncode(first, record), api.OK)
		checkFrame(t, s, "3", modelEncode(third, record), api.OK)
		checkGet(t, s, "1", "", api.ErrOther)
		checkGet(t, s, "2", record, api.OK)
		checkGet(t, s, "3", record, api.OK)
		checkRegister(t, s, first, 1, api.OK)
	}
}

// Every choice of faults: the one that is named first is answered, and what lay under the key lies there still.
func TestP14ErrorsInOrder(t *testing.T) {
	s := newStore(t, 1)
	checkRegister(t, s, helloFile(), 1, api.OK)
	checkPlant(t, s, "k", "what lay there", api.OK)
	for _, long := range []int{501, 1001, 5000000} {
		record := strings.Repeat("a", long)
		for _, key := range noKeys() {
			for _, id := range []int{1, 2, -1} {
				checkPut(t, s, key, record, id, 0, api.ErrKey)
				checkPut(t, s, key, "a", id, 0, api.ErrKey)
			}
			checkPlant(t, s, key, record, api.ErrKey)
			checkPlant(t, s, key, "", api.ErrKey)
			checkFrame(t, s, key, "", api.ErrKey)
			checkGet(t, s, key, "", api.ErrKey)
		}
		for _, key := range []string{"k", "new"} {
			checkPut(t, s, key, record, 1, 0, api.ErrLong)
			checkPut(t, s, key, record, 2, 0, api.ErrLong)
			checkPut(t, s, key, "a", 2, 0, api.ErrUnknown)
		}
	}
	checkPlant(t, s, "k", strings.Repeat("a", 1001), api.ErrLong)
	checkPlant(t, s, "new", strings.Repeat("a", 5000000), api.ErrLong)
	checkFrame(t, s, "k", "what lay there", api.OK)
	checkFrame(t, s, "new", "", api.ErrKey)
	checkGet(t, s, "new", "", api.ErrKey)
}

func TestP14Plant(t *testing.T) {
	s := newStore(t, 1)
	for _, key := range goodKeys() {
		for _, frame := range []string{"", "x", "\x00", bytesFrom(0, 255), strings.Repeat("F", 999), strings.Repeat("F", 1000), "of " + key} {
			checkPlant(t, s, key, frame, api.OK)
			checkFrame(t, s, key, frame, api.OK)
			checkGet(t, s, key, "", api.ErrFrame)
		}
	}
	for _, key := range goodKeys() {
		checkFrame(t, s, key, "of "+key, api.OK)
	}
}

func TestP14WhatLiesThereStays(t *testing.T) {
	first, second := helloFile(), modelFile(2, "a@", "x")
	s := newStore(t, 1)
	checkRegister(t, s, first, 1, api.OK)
	checkPut(t, s, "put", "hello world", 1, 20, api.OK)
	checkPlant(t, s, "planted", "anything", api.OK)
	stays := func() {
		t.Helper()
		checkFrame(t, s, "put", modelEncode(first, "hello world"), api.OK)
		checkFrame(t, s, "planted", "anything", api.OK)
	}
	stays()
	checkRegister(t, s, modelFile(1, "a@", "another"), 1, api.OK)
	stays()
	checkRemove(t, s, 1, api.OK)
	stays()
	checkGet(t, s, "put", "", api.ErrUnknown)
	checkRegister(t, s, second, 2, api.OK)
	stays()
	checkGet(t, s, "put", "", api.ErrUnknown)
	checkRegister(t, s, first, 0, api.ErrFull)
	checkRemove(t, s, 2, api.OK)
	checkRegister(t, s, first, 1, api.OK)
	stays()
	checkGet(t, s, "put", "hello world", api.OK)
}

func TestP14ManyKeys(t *testing.T) {
	s := newStore(t, 1)
	checkRegister(t, s, helloFile(), 1, api.OK)
	const many = 100000
	key := func(i int) string { return fmt.Sprintf("k%07d", i*7919%many) }
	for i := range many {
		checkPlant(t, s, key(i), modelHeaded(helloFile(), 0, key(i), key(i)), api.OK)
	}
	for i := range many {
		checkGet(t, s, key(i), key(i), api.OK)
	}
	checkGet(t, s, "k", "", api.ErrKey)
	checkGet(t, s, fmt.Sprintf("k%07d", many), "", api.ErrKey)
}

// What is planted takes the place of what was put, and the other way round.
func TestP15PutAndPlantAreOne(t *testing.T) {
	file := helloFile()
	s := newStore(t, 1)
	checkRegister(t, s, file, 1, api.OK)
	frame := modelHeaded(file, 1, "hello", "\x05\x00hello\x00")
	checkPut(t, s, "k", "hello world", 1, 20, api.OK)
	checkPlant(t, s, "k", frame, api.OK)
	checkFrame(t, s, "k", frame, api.OK)
	checkGet(t, s, "k", "hello", api.OK)
	checkPut(t, s, "k", "hello world", 1, 20, api.OK)
	checkGet(t, s, "k", "hello world", api.OK)
}

// Every choice of faults in a frame that is planted: the one that is named first is answered.
func TestP15GetErrorsInOrder(t *testing.T) {
	file := helloFile()
	s := newStore(t, 2)
	checkRegister(t, s, file, 1, api.OK)
	checkRegister(t, s, modelFile(3, "a@", "hello world"), 3, api.OK)
	checkGet(t, s, "k", "", api.ErrKey)
	named := []api.Errno{api.ErrFrame, api.ErrUnknown, api.ErrOther, api.ErrFrame, api.ErrSum}
	for choice := 0; choice < 1<<5; choice++ {
		record, want := "hello", api.OK
		var has [5]bool
		for i := 4; i >= 0; i-- {
			if has[i] = choice>>i&1 == 1; has[i] {
				record, want = "", named[i]
			}
		}
		frame := faulty(file, has[1], has[2], has[3], has[4])
		if !has[0] {
			checkPlant(t, s, "k", frame, api.OK)
			checkGet(t, s, "k", record, want)
			checkFrame(t, s, "k", frame, api.OK)
			continue
		}
		for how := 0; how < 4; how++ {
			checkPlant(t, s, "k", headless(frame, how), api.OK)
			checkGet(t, s, "k", record, want)
			checkFrame(t, s, "k", headless(frame, how), api.OK)
		}
	}
}

// Each byte of a frame's id counts.
func TestP15TheIdInTheFrame(t *testing.T) {
	s := newStore(t, 8)
	ids := []int{0, 1, 256, 257, 513, 65535}
	for _, id := range ids {
		checkRegister(t, s, modelFile(id, "a@", "hello world"), id, api.OK)
	}
	for _, id := range ids {
		file := modelFile(id, "a@", "hello world")
		frame := modelHeaded(file, 0, "hello", "hello")
		checkPlant(t, s, "k", frame, api.OK)
		checkGet(t, s, "k", "hello", api.OK)
		for _, other := range ids {
			if other != id {
				checkPlant(t, s, "other", "F\x00"+low(other, 2)+frame[4:], api.OK)
				checkGet(t, s, "other", "", api.ErrOther)
			}
		}
		for _, other := range []int{2, 255, 512, 65280} {
			checkPlant(t, s, "other", "F\x00"+low(other, 2)+frame[4:], api.OK)
			checkGet(t, s, "other", "", api.ErrUnknown)
		}
		checkRemove(t, s, id, api.OK)
		checkGet(t, s, "k", "", api.ErrUnknown)
		checkRegister(t, s, file, id, api.OK)
		checkGet(t, s, "k", "hello", api.OK)
	}
}

// pair is a store, and the model that it is held against.
type pair struct {
	store *glossary.Store
	model *modelStore
}

// check holds all that lies in a store against the model, and counts what Get should answer.
func (p *pair) check(t *testing.T, keys []string, seen *[api.ErrKey + 1]int) {
	t.Helper()
	for _, key := range keys {
		frame, e := p.model.frame(key)
		checkFrame(t, p.store, key, frame, e)
		record, e := p.model.get(key)
		checkGet(t, p.store, key, record, e)
		seen[e]++
	}
}

// things are what the calls of a store are tried with, good ones and bad ones.
type things struct {
	ids                          []int
	keys, files, records, frames []string
}

func someThings() *things {
	all := &things{
		ids:     []int{1, 2, 3, 4, 1, 2, 3, 4, 0, 65535, -1, 65536},
		keys:    append(goodKeys(), "", "123456789"),
		records: []string{"", "hello world", "hello", "abbaabbabaabbaab", "0123456789abba", strange(30), strings.Repeat("x", 500), strings.Repeat("x", 501)},
	}
	for _, id := range []int{1, 2, 3, 4, 65535} {
		all.files = append(all.files, modelFile(id, "a@", "hello world"), modelFile(id, "a b ", "0123456789"))
	}
	for _, file := range all.files {
		for _, record := range all.records[:3] {
			frame := modelEncode(file, record)
			all.frames = append(all.frames, frame, frame[:len(frame)-1], frame[:8]+"\xf4\x01"+frame[10:], frame[:13]+"\x00"+frame[14:])
		}
	}
	all.frames = append(all.frames, "", "F", strings.Repeat("F", 1000), strings.Repeat("F", 1001))
	all.files = append(all.files, "", all.files[0][1:], all.files[0]+"x")
	return all
}

// try makes one call, as the dice fall, and tells its error.
func (p *pair) try(t *testing.T, d *dice, all *things) api.Errno {
	t.Helper()
	key := all.keys[d.below(len(all.keys))]
	id := all.ids[d.below(len(all.ids))]
	switch d.below(6) {
	case 0, 1:
		file := all.files[d.below(len(all.files))]
		n, e := p.model.register(file)
		checkRegister(t, p.store, file, n, e)
		return e
	case 2:
		e := p.model.remove(id)
		checkRemove(t, p.store, id, e)
		return e
	case 3:
		frame := all.frames[d.below(len(all.frames))]
		e := p.model.plant(key, frame)
		checkPlant(t, p.store, key, frame, e)
		return e
	}
	record := all.records[d.below(len(all.records))]
	n, e := p.model.put(key, record, id)
	checkPut(t, p.store, key, record, id, n, e)
	return e
}

// Several stores at once: what is called on one does not matter to the others, and an error changes none.
func TestP1P2P13P14P15AsTheModelSays(t *testing.T) {
	d := dice{state: 15}
	all := someThings()
	var pairs []*pair
	for _, room := range []int{1, 2, 3, 8} {
		pairs = append(pairs, &pair{newStore(t, room), newModelStore(room)})
	}
	var seen, seenOfGet [api.ErrKey + 1]int
	for range 3000 {
		e := pairs[d.below(len(pairs))].try(t, &d, all)
		seen[e]++
		for _, p := range pairs {
			p.check(t, all.keys, &seenOfGet)
		}
		if t.Failed() {
			t.FailNow()
		}
	}
	for _, e := range []api.Errno{api.OK, api.ErrLong, api.ErrFile, api.ErrUnknown, api.ErrFull, api.ErrKey} {
		if seen[e] < 50 {
			t.Errorf("the answer %d was wanted only %d times", e, seen[e])
		}
	}
	for _, e := range []api.Errno{api.OK, api.ErrFrame, api.ErrUnknown, api.ErrOther, api.ErrSum, api.ErrKey} {
		if seenOfGet[e] < 50 {
			t.Errorf("the answer %d of Get was wanted only %d times", e, seenOfGet[e])
		}
	}
}
