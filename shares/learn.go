package shares

import "glossary/api"

// tally holds, of each value, how often it stands in a text and what share it has so far.
type tally struct {
	times [values]int
	share [values]int
	total int
}

// Learn makes the table of a text; an empty text has none, and the answer is empty.
func Learn(text string) string {
	var t tally
	t.count(text)
	t.admit()
	t.fill()
	return t.table()
}

func (t *tally) count(text string) {
	for i := 0; i < len(text); i++ {
		t.times[text[i]]++
	}
}

// admit gives the values that may stand in the table their first slot.
func (t *tally) admit() {
	for i := 0; i < api.MaxValues; i++ {
		value, found := t.mostFrequent()
		if !found {
			return
		}
		t.share[value] = 1
		t.total++
	}
}

// mostFrequent tells which of the values without a share stands in the text most often.
func (t *tally) mostFrequent() (byte, bool) {
	best := byte(0)
	most := 0
	for v := 0; v < values; v++ {
		if t.share[v] == 0 && t.times[v] > most {
			best = byte(v)
			most = t.times[v]
		}
	}
	return best, most > 0
}

// fill gives away the slots that are left.
func (t *tally) fill() {
	for t.total < api.Slots {
		value, found := t.neediest()
		if !found {
			return
		}
		t.share[value]++
		t.total++
	}
}

// neediest tells for which value with a share the times divided by the share are the most.
func (t *tally) neediest() (byte, bool) {
	best := byte(0)
	found := false
	for v := 0; v < values; v++ {
		if t.share[v] == 0 {
			continue
		}
		// The fractions are multiplied out, for a division would round.
		if !found || t.times[v]*t.share[best] > t.times[best]*t.share[v] {
			best = byte(v)
			found = true
		}
	}
	return best, found
}

func (t *tally) table() string {
	var out []byte
	for v := 0; v < values; v++ {
		if t.share[v] > 0 {
			out = append(out, byte(v), byte(t.share[v]))
		}
	}
	return string(out)
}
