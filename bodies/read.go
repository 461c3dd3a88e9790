package bodies

import (
	"glossary/api"
	"glossary/counts"
	"glossary/shares"
	"glossary/streams"
)

// Read plays a body of a packed frame: the record of so many bytes that it tells; false, if it is no body of one.
func Read(table string, content string, body string, size int) (string, bool) {
	loose, at, isLoose := readLoose(table, body)
	if !isLoose {
		return "", false
	}
	steps, areSteps := readSteps(body, at)
	if !areSteps {
		return "", false
	}
	return play(content, loose, steps, size)
}

// readLoose tells the loose bytes that a body begins with, and the place behind them.
func readLoose(table string, body string) (string, int, bool) {
	n, at, isCount := counts.Read(body, 0)
	if !isCount || at >= len(body) {
		return "", 0, false
	}
	how := body[at : at+1]
	at++
	if how == asBytes {
		return readText(body, at, n)
	}
	if how != asStream {
		return "", 0, false
	}
	size, streamAt, isSize := counts.Read(body, at)
	if !isSize {
		return "", 0, false
	}
	stream, end, isText := readText(body, streamAt, size)
	layout, isTable := shares.Lay(table)
	if !isText || !isTable {
		return "", 0, false
	}
	loose, isStream := streams.Read(&layout, stream, n)
	return loose, end, isStream
}

// readText tells the n bytes at a place of a body, and the place behind them; false, if it ends too early.
func readText(body string, at int, n int) (string, int, bool) {
	if at < 0 || at > len(body) || n < 0 || n > len(body)-at {
		return "", 0, false
	}
	return body[at : at+n], at + n, true
}

// readSteps tells the copies with which a body ends; false, if they are none or something stands behind them.
func readSteps(body string, at int) ([]step, bool) {
	n, next, isCount := counts.Read(body, at)
	if !isCount {
		return nil, false
	}
	var steps []step
	for i := 0; i < n; i++ {
		s, end, isStep := readStep(body, next)
		if !isStep {
			return nil, false
		}
		steps = append(steps, s)
		next = end
	}
	return steps, next == len(body)
}

// readStep tells the copy that stands at a place of a body, and the place behind it.
func readStep(body string, at int) (step, int, bool) {
	ahead, lengthAt, isAhead := counts.Read(body, at)
	if !isAhead {
		return step{}, 0, false
	}
	more, distanceAt, isMore := counts.Read(body, lengthAt)
	if !isMore {
		return step{}, 0, false
	}
	distance, end, isDistance := counts.Read(body, distanceAt)
	if !isDistance {
		return step{}, 0, false
	}
	return step{ahead: ahead, length: more + api.MinCopy, distance: distance}, end, true
}
