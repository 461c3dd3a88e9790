// Package numbers: numbers written into bytes, the lowest byte first.
package numbers

// Write writes a number into so many bytes.
func Write(number int, size int) string {
	var out []byte
	for i := 0; i < size; i++ {
		out = append(out, byte(number%256))
		number /= 256
	}
	return string(out)
}

// Read tells the number that stands in a few bytes.
func Read(s string) int {
	number := 0
	for i := len(s) - 1; i >= 0; i-- {
		number = 256*number + int(s[i])
	}
	return number
}
