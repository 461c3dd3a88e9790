// Package bodies: records taken apart into loose bytes and copies, as the bodies of packed frames tell them, and played back.
package bodies

import "glossary/api"

// step is a copy, with the number of loose bytes that go ahead of it.
type step struct {
	ahead    int
	length   int
	distance int
}

// split takes a record apart: its loose bytes, and the copies between them.
func split(content string, record string) (string, []step) {
	text := content + record
	var loose []byte
	var steps []step
	ahead := 0
	at := len(content)
	for at < len(text) {
		length, distance := longest(text, at)
		if length < api.MinCopy {
			loose = append(loose, text[at])
			ahead++
			at++
			continue
		}
		steps = append(steps, step{ahead: ahead, length: length, distance: distance})
		ahead = 0
		at += length
	}
	return string(loose), steps
}

// longest tells the length and the distance of the longest copy that could begin at a place: of several, the nearest.
func longest(text string, at int) (int, int) {
	length := 0
	nearest := 0
	for distance := 1; distance <= at; distance++ {
		same := countSame(text, at, distance)
		if same > length {
			length = same
			nearest = distance
		}
	}
	return length, nearest
}

// countSame tells how many bytes from a place on are those that stand so far ahead of them.
func countSame(text string, at int, distance int) int {
	if distance < 1 || distance > at {
		return 0
	}
	same := 0
	// The bytes ahead may reach into those that are counted: a copy may run into what it has laid itself.
	for at+same < len(text) && text[at+same] == text[at+same-distance] {
		same++
	}
	return same
}
