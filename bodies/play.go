package bodies

// play lays loose bytes and copies behind a content; false, if that can't be done or does not come to so many bytes.
func play(content string, loose string, steps []step, size int) (string, bool) {
	laid := []byte(content)
	end := len(content) + size
	used := 0
	for i := 0; i < len(steps); i++ {
		s := steps[i]
		if s.ahead < 0 || s.ahead > len(loose)-used {
			return "", false
		}
		laid = append(laid, loose[used:used+s.ahead]...)
		used += s.ahead
		if s.distance < 1 || s.distance > len(laid) {
			return "", false
		}
		// A copy can have thousands of bytes: what comes to too many is refused before it is laid.
		if s.length > end-len(laid) {
			return "", false
		}
		// Byte by byte, for a copy may run into what it has laid itself.
		for j := 0; j < s.length; j++ {
			value := laid[len(laid)-s.distance]
			laid = append(laid, value)
		}
	}
	laid = append(laid, loose[used:]...)
	if size < 0 || len(laid) != end {
		return "", false
	}
	return string(laid[len(content):]), true
}
