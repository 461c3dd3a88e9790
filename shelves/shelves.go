// Package shelves: texts that lie under keys.
package shelves

// spot is where the text of one key lies.
type spot struct {
	key  string
	text string
	// behind tells at which spots the keys go on that come here and have the bit 0, and the bit 1. None goes on at the first spot, so 0 says that there is no such spot.
	behind [2]int
}

// Shelf keeps texts under keys. The spots part by the bits of their keys, one bit with every step: so a short key is found in few steps, however many keys there are.
type Shelf struct {
	spots []spot
}

// end is where the way to a key ends: at its spot, or at the one that its spot would be behind, on this side.
type end struct {
	found bool
	at    int
	side  int
}

// Lay lays a text under a key, in the place of what lay there.
func (s *Shelf) Lay(key string, text string) {
	e := s.find(key)
	if e.found {
		s.spots[e.at].text = text
		return
	}
	s.spots = append(s.spots, spot{key: key, text: text})
	// Of the very first spot this says that none is behind it.
	s.spots[e.at].behind[e.side] = len(s.spots) - 1
}

// Look tells what lies under a key; false, if nothing does.
func (s *Shelf) Look(key string) (string, bool) {
	e := s.find(key)
	if !e.found {
		return "", false
	}
	return s.spots[e.at].text, true
}

func (s *Shelf) find(key string) end {
	at := 0
	for step := 0; at < len(s.spots); step++ {
		if s.spots[at].key == key {
			return end{found: true, at: at}
		}
		side := bitAt(key, step)
		next := s.spots[at].behind[side]
		// What is behind a spot came later than it: so the steps come to an end.
		if next <= at {
			return end{at: at, side: side}
		}
		at = next
	}
	return end{}
}

// bitAt tells a key's bit, 0 or 1. Behind the key's end they are all 0.
func bitAt(key string, at int) int {
	if at < 0 || at/8 >= len(key) {
		return 0
	}
	part := int(key[at/8])
	for i := at % 8; i > 0; i-- {
		part /= 2
	}
	return part % 2
}
