// Package shares: how tables give bytes shares of the slots, and whose the slots are.
package shares

import "glossary/api"

const values = 256

// stride is odd, so that its multiples reach every slot once and a value's slots lie scattered.
const stride = 43

// Layout tells of each slot whose it is and which number it has. Lay makes it.
type Layout struct {
	owner  [api.Slots]byte
	number [api.Slots]int
	share  [values]int
}

// Lay makes the layout of a table; false, if the text is no table.
func Lay(table string) (Layout, bool) {
	var l Layout
	if !IsTable(table) {
		return l, false
	}
	place := 0
	for i := 0; i+1 < len(table); i += 2 {
		value := table[i]
		share := int(table[i+1])
		l.share[value] = share
		for j := 0; j < share; j++ {
			l.owner[stride*place%api.Slots] = value
			place++
		}
	}
	l.numberSlots()
	return l, true
}

// IsTable tells whether a text is a table.
func IsTable(table string) bool {
	if len(table)%2 != 0 || len(table) > 2*api.Slots {
		return false
	}
	last := -1
	total := 0
	for i := 0; i+1 < len(table); i += 2 {
		value := int(table[i])
		share := int(table[i+1])
		if value <= last || share < 1 || share > api.Slots {
			return false
		}
		last = value
		total += share
	}
	return total == api.Slots
}

func (l *Layout) numberSlots() {
	next := l.share
	for slot := 0; slot < api.Slots; slot++ {
		value := l.owner[slot]
		l.number[slot] = next[value]
		next[value]++
	}
}

// Share tells how many slots a value owns: 0, if it has no share.
func (l *Layout) Share(value byte) int {
	return l.share[value]
}

// Owner tells the value that owns a slot.
func (l *Layout) Owner(slot int) byte {
	if slot < 0 || slot >= api.Slots {
		return 0
	}
	return l.owner[slot]
}

// Number tells the number that a slot has among the slots of its owner.
func (l *Layout) Number(slot int) int {
	if slot < 0 || slot >= api.Slots {
		return 0
	}
	return l.number[slot]
}

// Slot tells which slot of a value has this number.
func (l *Layout) Slot(value byte, number int) int {
	for slot := 0; slot < api.Slots; slot++ {
		if l.owner[slot] == value && l.number[slot] == number {
			return slot
		}
	}
	return 0
}
