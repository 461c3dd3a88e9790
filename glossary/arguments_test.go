package glossary_test

import (
	"fmt"
	"strings"
	"testing"

	"glossary/api"
	"glossary/glossary"
)

// oddTexts are texts at which a careless call could stumble.
func oddTexts() []string {
	out := append(noTables(), "a@", "a b ", "\x02", "\x16\x80", "\x00", "\xff", bytesFrom(0, 255), evenly(bytesFrom(0, 63), 1))
	for _, n := range []int{499, 500, 501, 799, 800, 801, 999, 1000, 1001, 20000} {
		out = append(out, strings.Repeat("a", n), strings.Repeat("\x00", n), strings.Repeat("\xff", n))
	}
	for _, s := range []string{"GD", "GD\x01", "GD\x01\x00\x00", "GD\x01\x00\x00\xff", "GD\x01\x00\x00\x01a@", "GD\x01\x00\x00\x01a@\xff\xff", "GD\x01\x00\x00\x01a@\x01\x00x"} {
		out = append(out, s, sealed(s))
	}
	file := sealed("GD\x01\x00\x00\x01a@\x01\x00x")
	for _, body := range []string{"", "x", "\x00\x00\x00", "\x01\x00x\x00", "\x01\x01\x01\x02\x00", "\x00\x00\x01\x00\x00\x01", "\xff\x7f\x01\x01\x02\xff\x7f\xff\x7f\xff\x7f\xff\x7f"} {
		out = append(out, modelHeaded(file, 0, "x", body), modelHeaded(file, 1, "a", body), modelHeaded(file, 1, "xxxx", body))
	}
	return out
}

// oddNumbers are the bounds that the document names, and what lies beyond them.
func oddNumbers() []int {
	return []int{-1 << 63, -1, 0, 1, 2, 499, 500, 501, 65535, 65536, 1<<63 - 1}
}

// answers tells all that the calls say of these texts, and finds fault with a result beside an error.
func answers(t *testing.T, a, b string, n int) string {
	table, e1 := glossary.Table(a)
	stream, e2 := glossary.Squeeze(a, b)
	s, e3 := glossary.Unsqueeze(a, b, n)
	file, e4 := glossary.Write(n, a, b)
	id, itsTable, content, e5 := glossary.Parse(a)
	frame, e6 := glossary.Encode(a, b)
	record, e7 := glossary.Decode(a, b)
	if e1 != api.OK && table != "" || e2 != api.OK && stream != "" || e3 != api.OK && s != "" || e4 != api.OK && file != "" || e6 != api.OK && frame != "" || e7 != api.OK && record != "" {
		t.Errorf("P1: an error and a result, at %.40q, %.40q, %d", a, b, n)
	}
	if e5 != api.OK && (id != 0 || itsTable != "" || content != "") {
		t.Errorf("P1: an error and a result, at %.40q", a)
	}
	if sum := glossary.Sum(a); sum < 0 || sum > 4294967295 {
		t.Errorf("P3: a sum of %d", sum)
	}
	return fmt.Sprintf("%d %q %d %q %d %q %d %q %d %d %q %q %d %q %d %q %d", glossary.Sum(a), table, e1, stream, e2, s, e3, file, e4, id, itsTable, content, e5, frame, e6, record, e7)
}

func TestP1P2OddArguments(t *testing.T) {
	numbers := oddNumbers()
	texts := oddTexts()
	var first []string
	for _, a := range texts {
		for i, b := range texts {
			first = append(first, answers(t, a, b, numbers[i%len(numbers)]))
		}
	}
	// Once more, from the last to the first: what was called before must not matter.
	for i := len(texts) - 1; i >= 0; i-- {
		for j := len(texts) - 1; j >= 0; j-- {
			again := answers(t, texts[i], texts[j], numbers[j%len(numbers)])
			if again != first[i*len(texts)+j] {
				t.Fatalf("P2: another answer at %.40q, %.40q", texts[i], texts[j])
			}
		}
	}
}

// learned tells what Cover and Train say of a text, and finds fault with an error that is not the one to answer.
func learned(t *testing.T, text string, k, d, budget, id int) string {
	want := api.OK
	switch {
	case len(text) > api.MaxText:
		want = api.ErrLong
	case d < 1, k < d, budget < k, budget > api.MaxContent, len(text) < k:
		want = api.ErrParam
	}
	content, e := glossary.Cover(text, k, d, budget)
	if e != want || (e == api.OK) != (content != "") {
		t.Errorf("P7: Cover(%.40q, %d, %d, %d) = %.40q, %d, want %d", text, k, d, budget, content, e, want)
	}
	if want == api.OK && (id < 0 || id > api.MaxId) {
		want = api.ErrParam
	}
	file, e := glossary.Train(id, text, k, d, budget)
	if e != want || (e == api.OK) != (file != "") {
		t.Errorf("P10: Train(%d, %.40q, %d, %d, %d) = %.40q, %d, want %d", id, text, k, d, budget, file, e, want)
	}
	return content + file
}

func TestP1P2OddTexts(t *testing.T) {
	numbers := oddNumbers()
	for i, text := range oddTexts() {
		for j, k := range numbers {
			for m, d := range numbers {
				for n, budget := range numbers {
					id := numbers[(i+j+m+n)%len(numbers)]
					first := learned(t, text, k, d, budget, id)
					if first == "" {
						continue
					}
					// Another text in between must not matter.
					glossary.Train(1, "another text", 3, 2, 9)
					if learned(t, text, k, d, budget, id) != first {
						t.Fatalf("P2: another answer at %.40q, %d, %d, %d", text, k, d, budget)
					}
				}
			}
		}
	}
}

// stored tells all that the calls of a store say of these texts, and finds fault with a result beside an error.
func stored(t *testing.T, s *glossary.Store, a, b string, n int) string {
	id, e1 := s.Register(a)
	length, e2 := s.Put(a, b, n)
	frame, e3 := s.Frame(a)
	record, e4 := s.Get(a)
	e5 := s.Plant(b, a)
	frame2, e6 := s.Frame(b)
	record2, e7 := s.Get(b)
	e8 := s.Remove(n)
	if e1 != api.OK && id != 0 || e2 != api.OK && length != 0 || e3 != api.OK && frame != "" || e4 != api.OK && record != "" || e6 != api.OK && frame2 != "" || e7 != api.OK && record2 != "" {
		t.Errorf("P1: an error and a result, at %.40q, %.40q, %d", a, b, n)
	}
	return fmt.Sprintf("%d %d %d %d %q %d %q %d %d %q %d %q %d %d", id, e1, length, e2, frame, e3, record, e4, e5, frame2, e6, record2, e7, e8)
}

// Two stores on which the same is called say the same, whatever is called on a third one in between.
func TestP1P2OddArgumentsOfStores(t *testing.T) {
	numbers := oddNumbers()
	texts := append(oddTexts(), "k", "12345678", "123456789", helloFile(), modelEncode(helloFile(), "hello world"))
	one, another, third := newStore(t, 3), newStore(t, 3), newStore(t, 1)
	for i, a := range texts {
		for j, b := range texts {
			n := numbers[(i+j)%len(numbers)]
			first := stored(t, one, a, b, n)
			stored(t, third, b, a, n)
			if stored(t, another, a, b, n) != first {
				t.Fatalf("P2: another answer at %.40q, %.40q, %d", a, b, n)
			}
		}
	}
	for _, n := range numbers {
		s, e := glossary.New(n)
		if (s == nil) != (n < 1 || n > 8) || (e == api.OK) != (s != nil) {
			t.Errorf("P1: New(%d) = %v, %d", n, s, e)
		}
	}
}
