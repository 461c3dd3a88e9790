// Package covers: contents of dictionaries, made of those windows of a text whose pieces stand in it most often.
package covers

// Make makes a content of at most budget bytes out of windows of k bytes, by the places of pieces of d bytes.
// It is empty, if d is below 1, or k below d or longer than the text.
func Make(text string, k int, d int, budget int) string {
	if d < 1 || k < d || len(text) < k {
		return ""
	}
	p := find(text, d)
	span := k - d + 1
	content := ""
	for len(content) < budget {
		start, score := p.best(span)
		if score == 0 {
			return content
		}
		p.take(start, span)
		content = lastBytes(text[start:start+k], budget-len(content)) + content
	}
	return content
}

// lastBytes tells the last bytes of a window: as many as there is room for.
func lastBytes(window string, room int) string {
	if room < 0 || room >= len(window) {
		return window
	}
	return window[len(window)-room:]
}
