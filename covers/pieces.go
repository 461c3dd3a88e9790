package covers

// pieces tells, of each place of a text, about the piece that stands there.
// How often a piece stands in the text, and whether it is taken, is kept at its first place alone.
type pieces struct {
	previous []int // the nearest place ahead at which the same piece stands; -1, if there is none
	first    []int // the first place at which the same piece stands
	times    []int
	taken    []bool
}

// find finds the pieces of d bytes; d is 1 or more.
func find(text string, d int) pieces {
	var p pieces
	for at := 0; at <= len(text)-d; at++ {
		previous := previousPlace(text, d, at)
		first := at
		if previous >= 0 {
			first = p.first[previous]
		}
		p.previous = append(p.previous, previous)
		p.first = append(p.first, first)
		p.times = append(p.times, 0)
		p.taken = append(p.taken, false)
		p.times[first]++
	}
	return p
}

func previousPlace(text string, d int, at int) int {
	piece := text[at : at+d]
	place := at - 1
	for place >= 0 && text[place:place+d] != piece {
		place--
	}
	return place
}

// best tells where the window of the greatest score begins, and that score; a window has span pieces.
func (p *pieces) best(span int) (int, int) {
	best := 0
	most := 0
	for start := 0; start <= len(p.first)-span; start++ {
		score := p.score(start, span)
		if score > most {
			best = start
			most = score
		}
	}
	return best, most
}

func (p *pieces) score(start int, span int) int {
	score := 0
	for at := start; at < start+span; at++ {
		first := p.first[at]
		// A piece that stands in the window more than once counts at its first place there.
		if p.previous[at] < start && !p.taken[first] {
			score += p.times[first]
		}
	}
	return score
}

// take makes the pieces of a window count no more, wherever they stand.
func (p *pieces) take(start int, span int) {
	for at := start; at < start+span; at++ {
		p.taken[p.first[at]] = true
	}
}
