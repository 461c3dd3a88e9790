package bodies

import (
	"glossary/api"
	"glossary/counts"
	"glossary/shares"
	"glossary/streams"
)

// The byte that tells how the loose bytes are written.
const (
	asBytes  = "\x00"
	asStream = "\x01"
)

// Write makes the body that a record has in a packed frame, by a dictionary's table and content.
func Write(table string, content string, record string) string {
	loose, steps := split(content, record)
	body := counts.Write(len(loose))
	body += writeLoose(table, loose)
	body += counts.Write(len(steps))
	for i := 0; i < len(steps); i++ {
		body += writeStep(steps[i])
	}
	return body
}

// writeLoose writes loose bytes as a stream, if they have one and it makes the body shorter.
func writeLoose(table string, loose string) string {
	plain := asBytes + loose
	layout, isTable := shares.Lay(table)
	if !isTable {
		return plain
	}
	stream, allShared := streams.Write(&layout, loose)
	if !allShared {
		return plain
	}
	squeezed := asStream
	squeezed += counts.Write(len(stream))
	squeezed += stream
	if len(squeezed) < len(plain) {
		return squeezed
	}
	return plain
}

func writeStep(s step) string {
	out := counts.Write(s.ahead)
	out += counts.Write(s.length - api.MinCopy)
	out += counts.Write(s.distance)
	return out
}
