// Package counts: small numbers written into one byte or two.
package counts

// low is how many counts one byte tells: from here on a second byte follows.
const low = 128

// most is the greatest count.
const most = low*low - 1

// Write writes a count; what is no number of a count has no bytes.
func Write(count int) string {
	if count < 0 || count > most {
		return ""
	}
	if count < low {
		return string([]byte{byte(count)})
	}
	return string([]byte{byte(low + count%low), byte(count / low)})
}

// Read tells the count that stands at a place of a text, and the place behind it; false, if none stands there.
func Read(s string, at int) (int, int, bool) {
	if at < 0 || at >= len(s) {
		return 0, 0, false
	}
	first := int(s[at])
	if first < low {
		return first, at + 1, true
	}
	if len(s)-at < 2 {
		return 0, 0, false
	}
	second := int(s[at+1])
	// A count has one form alone: one that fits into a byte is not taken in two.
	if second < 1 || second >= low {
		return 0, 0, false
	}
	return first - low + low*second, at + 2, true
}
