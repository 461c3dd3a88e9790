package streams

import (
	"glossary/api"
	"glossary/shares"
)

// Read tells the n bytes of a stream; false, if it is no stream of n bytes by this layout.
func Read(l *shares.Layout, stream string, n int) (string, bool) {
	end := countBits(stream)
	if end < slotBits {
		return "", false
	}
	slot := 0
	at := 0
	for at < slotBits {
		slot = 2*slot + bitAt(stream, at)
		at++
	}
	var out []byte
	for i := 0; i < n; i++ {
		out = append(out, l.Owner(slot))
		number := l.Number(slot)
		for number < api.Slots {
			if at >= end {
				return "", false
			}
			number = 2*number + bitAt(stream, at)
			at++
		}
		slot = number - api.Slots
	}
	if slot != 0 || at != end {
		return "", false
	}
	return string(out), true
}

// countBits tells how many bits stand ahead of the closing 1; -1, if the last byte has none.
func countBits(stream string) int {
	if len(stream) == 0 || stream[len(stream)-1] == 0 {
		return -1
	}
	last := int(stream[len(stream)-1])
	bits := 8*len(stream) - 1
	for i := 0; i < 8 && last%2 == 0; i++ {
		last /= 2
		bits--
	}
	return bits
}

func bitAt(stream string, at int) int {
	if at < 0 || at/8 >= len(stream) {
		return 0
	}
	part := int(stream[at/8])
	for i := at % 8; i < 7; i++ {
		part /= 2
	}
	return part % 2
}
