package glossary_test

import "glossary/api"

// modelStore says once more what the document says of a store.
type modelStore struct {
	room   int
	files  map[int]string
	frames map[string]string
}

func newModelStore(room int) *modelStore {
	return &modelStore{room: room, files: map[int]string{}, frames: map[string]string{}}
}

func (m *modelStore) register(file string) (int, api.Errno) {
	id, _, _, ok := modelParse(file)
	if !ok {
		return 0, api.ErrFile
	}
	if m.files[id] == "" && len(m.files) == m.room {
		return 0, api.ErrFull
	}
	m.files[id] = file
	return id, api.OK
}

func (m *modelStore) remove(id int) api.Errno {
	if m.files[id] == "" {
		return api.ErrUnknown
	}
	delete(m.files, id)
	return api.OK
}

func (m *modelStore) put(key, record string, id int) (int, api.Errno) {
	switch {
	case key == "", len(key) > 8:
		return 0, api.ErrKey
	case len(record) > 500:
		return 0, api.ErrLong
	case m.files[id] == "":
		return 0, api.ErrUnknown
	}
	m.frames[key] = modelEncode(m.files[id], record)
	return len(m.frames[key]), api.OK
}

func (m *modelStore) plant(key, frame string) api.Errno {
	switch {
	case key == "", len(key) > 8:
		return api.ErrKey
	case len(frame) > 1000:
		return api.ErrLong
	}
	m.frames[key] = frame
	return api.OK
}

func (m *modelStore) frame(key string) (string, api.Errno) {
	if frame, lies := m.frames[key]; lies {
		return frame, api.OK
	}
	return "", api.ErrKey
}

func (m *modelStore) get(key string) (string, api.Errno) {
	frame, e := m.frame(key)
	if e != api.OK {
		return "", e
	}
	if !modelHasHead(frame) {
		return "", api.ErrFrame
	}
	file := m.files[int(frame[2])+256*int(frame[3])]
	if file == "" {
		return "", api.ErrUnknown
	}
	return modelDecode(file, frame)
}
