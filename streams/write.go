// Package streams: bytes written as streams by a table's layout, and read out of them.
package streams

import (
	"glossary/api"
	"glossary/shares"
)

// slotBits is how many bits tell a slot.
const slotBits = 6

// Write makes the stream of these bytes; false, if one of them has no share.
func Write(l *shares.Layout, s string) (string, bool) {
	// A stream ends at slot 0 and it is not known where it begins: so it is made from its end on.
	var backward []byte
	slot := 0
	for i := len(s) - 1; i >= 0; i-- {
		share := l.Share(s[i])
		if share < 1 {
			return "", false
		}
		number := slot + api.Slots
		for number >= 2*share {
			backward = append(backward, byte(number%2))
			number /= 2
		}
		slot = l.Slot(s[i], number)
	}
	for i := 0; i < slotBits; i++ {
		backward = append(backward, byte(slot%2))
		slot /= 2
	}
	return pack(backward), true
}

// pack writes bits, of which the last comes first, into bytes and closes them.
func pack(backward []byte) string {
	var out []byte
	part := 0
	filled := 0
	for i := len(backward) - 1; i >= 0; i-- {
		part = 2*part + int(backward[i])
		filled++
		if filled == 8 {
			out = append(out, byte(part))
			part = 0
			filled = 0
		}
	}
	part = 2*part + 1
	filled++
	for filled < 8 {
		part *= 2
		filled++
	}
	out = append(out, byte(part))
	return string(out)
}
