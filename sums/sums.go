// Package sums: the checksum by which files and records are known again.
package sums

const (
	start   = 2166136261
	factor  = 16777619
	modulus = 4294967296
)

// Of tells the sum of a text, from 0 to 4294967295.
func Of(s string) int {
	sum := start
	for i := 0; i < len(s); i++ {
		sum = (sum ^ int(s[i])) * factor % modulus
	}
	return sum
}
