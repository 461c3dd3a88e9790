package shares

import (
	"strings"
	"testing"

	"glossary/api"
)

func TestLayOfTheExample(t *testing.T) {
	l, ok := Lay("a b ")
	if !ok {
		t.Fatal("\"a b \" is a table")
	}
	for slot := 0; slot < api.Slots; slot++ {
		ofA := slot <= 10 || slot >= 22 && slot <= 31 || slot >= 43 && slot <= 53
		if (l.Owner(slot) == 'a') != ofA || !ofA && l.Owner(slot) != 'b' {
			t.Errorf("slot %d is owned by %q", slot, l.Owner(slot))
		}
	}
	for _, c := range []struct{ slot, number int }{{0, 32}, {10, 42}, {22, 43}, {31, 52}, {43, 53}, {53, 63}, {11, 32}, {63, 63}} {
		if got := l.Number(c.slot); got != c.number {
			t.Errorf("Number(%d) = %d, want %d", c.slot, got, c.number)
		}
	}
	if l.Share('a') != 32 || l.Share('b') != 32 || l.Share('c') != 0 || l.Share(0) != 0 {
		t.Error("a and b alone have shares, of 32")
	}
}

func TestSlotIsFoundByItsNumber(t *testing.T) {
	for _, table := range []string{"a@", "a b ", "a?b\x01", "\x00\x01\xff?", "a\x16b\x15c\x15"} {
		l, ok := Lay(table)
		if !ok {
			t.Fatalf("%q is a table", table)
		}
		for slot := 0; slot < api.Slots; slot++ {
			value, number := l.Owner(slot), l.Number(slot)
			if share := l.Share(value); number < share || number >= 2*share {
				t.Errorf("%q: slot %d has the number %d of a share of %d", table, slot, number, share)
			}
			if got := l.Slot(value, number); got != slot {
				t.Errorf("%q: Slot(%d, %d) = %d, want %d", table, value, number, got, slot)
			}
		}
	}
}

func TestSlotsThatAreNone(t *testing.T) {
	l, _ := Lay("a@")
	for _, slot := range []int{-1 << 63, -1, 64, 1<<63 - 1} {
		if l.Owner(slot) != 0 || l.Number(slot) != 0 {
			t.Errorf("slot %d has an owner or a number", slot)
		}
	}
	if l.Slot('a', 63) != 0 || l.Slot('b', 64) != 0 {
		t.Error("a number that no slot has was found")
	}
}

func TestLayRefuses(t *testing.T) {
	for _, table := range []string{"", "a", "a?", "aA", "a@b", "a@b\x00", "a\x00b@", "b a ", "a a ", "a b!", "\x80\x80", strings.Repeat("a\x01", 64)} {
		if _, ok := Lay(table); ok {
			t.Errorf("%q is no table", table)
		}
	}
}

func TestLearn(t *testing.T) {
	for _, c := range []struct{ text, want string }{
		{"", ""}, {"a", "a@"}, {"ab", "a b "}, {"aab", "a+b\x15"}, {"abc", "a\x16b\x15c\x15"},
	} {
		if got := Learn(c.text); got != c.want {
			t.Errorf("Learn(%q) = %q, want %q", c.text, got, c.want)
		}
	}
}
