package shelves

import (
	"fmt"
	"strings"
	"testing"
)

func checkLook(t *testing.T, s *Shelf, key, want string, wantLies bool) {
	t.Helper()
	if got, lies := s.Look(key); got != want || lies != wantLies {
		t.Errorf("Look(%.20q) = %q, %v, want %q, %v", key, got, lies, want, wantLies)
	}
}

func TestAnEmptyShelf(t *testing.T) {
	var s Shelf
	for _, key := range []string{"", "a", "\x00", "12345678"} {
		checkLook(t, &s, key, "", false)
	}
}

func TestLayAndLook(t *testing.T) {
	var s, other Shelf
	s.Lay("a", "one")
	checkLook(t, &s, "a", "one", true)
	checkLook(t, &s, "b", "", false)
	s.Lay("b", "")
	checkLook(t, &s, "b", "", true)
	s.Lay("a", "two")
	s.Lay("b", "three")
	checkLook(t, &s, "a", "two", true)
	checkLook(t, &s, "b", "three", true)
	checkLook(t, &s, "ab", "", false)
	checkLook(t, &s, "", "", false)
	checkLook(t, &s, strings.Repeat("a", 1000000), "", false)
	checkLook(t, &other, "a", "", false)
	if len(s.spots) != 2 {
		t.Errorf("%d spots for two keys", len(s.spots))
	}
}

// someKeys are keys that are alike: beginnings of each other, with bytes 0 behind them, and each single byte.
func someKeys() []string {
	keys := []string{""}
	for at := 0; len(keys[at]) < 4; at++ {
		for _, next := range []string{"\x00", "\x01", "\x80", "\xff", "a"} {
			keys = append(keys, keys[at]+next)
		}
	}
	for v := 2; v < 256; v++ {
		keys = append(keys, string([]byte{byte(v), 'x'}))
	}
	for n := 5; n <= 8; n++ {
		keys = append(keys, strings.Repeat("\x00", n), strings.Repeat("\xff", n))
	}
	return keys
}

func TestKeysThatAreAlike(t *testing.T) {
	keys := someKeys()
	for _, from := range []int{0, len(keys) / 2, len(keys) - 1} {
		for _, by := range []int{1, len(keys) - 1} {
			var s Shelf
			for i := range keys {
				key := keys[(from+i*by)%len(keys)]
				checkLook(t, &s, key, "", false)
				s.Lay(key, "of "+key)
			}
			for _, key := range keys {
				checkLook(t, &s, key, "of "+key, true)
				s.Lay(key, "now "+key)
			}
			for _, key := range keys {
				checkLook(t, &s, key, "now "+key, true)
			}
			if len(s.spots) != len(keys) {
				t.Errorf("%d spots for %d keys", len(s.spots), len(keys))
			}
		}
	}
}

// longestWay tells how many spots stand on the way to the farthest one.
func longestWay(s *Shelf) int {
	ways := make([]int, len(s.spots))
	longest := 0
	for i := range s.spots {
		ways[i]++
		longest = max(longest, ways[i])
		for _, next := range s.spots[i].behind {
			if next > 0 {
				ways[next] = ways[i]
			}
		}
	}
	return longest
}

// However many keys there are, the way is no longer than 64 bits and the eight keys that may have the same ones.
func TestFewSteps(t *testing.T) {
	var s Shelf
	for i := range 20000 {
		s.Lay(fmt.Sprintf("%08d", i), "")
	}
	for n := 1; n <= 8; n++ {
		s.Lay(strings.Repeat("\x00", n), "")
		s.Lay(strings.Repeat("\xff", n), "")
	}
	if way := longestWay(&s); way > 72 {
		t.Errorf("a way of %d steps", way)
	}
}

func TestBitAt(t *testing.T) {
	bits := ""
	for at := -1; at < 17; at++ {
		bits += string(rune('0' + bitAt("\xa6\x0f", at)))
	}
	if bits != "0"+"01100101"+"11110000"+"0" {
		t.Errorf("the bits are %s", bits)
	}
}
