package covers

import "testing"

func TestMake(t *testing.T) {
	for _, c := range []struct {
		text         string
		k, d, budget int
		want         string
	}{
		{"abcabcabd", 3, 3, 3, "abc"}, {"abcabcabd", 3, 3, 7, "bbcaabc"}, {"abcabcabd", 3, 3, 500, "abdcabbcaabc"}, {"aaaa", 2, 1, 4, "aa"}, {"abcabcab", 2, 2, 6, "cabcab"},
		{"abcd", 3, 1, 2, "bc"}, {"abcd", 3, 1, 0, ""}, {"abcd", 3, 1, -1, ""},
	} {
		if got := Make(c.text, c.k, c.d, c.budget); got != c.want {
			t.Errorf("Make(%q, %d, %d, %d) = %q, want %q", c.text, c.k, c.d, c.budget, got, c.want)
		}
	}
}

func TestMakeOfNumbersThatMayNotBe(t *testing.T) {
	for _, c := range []struct{ k, d int }{{2, 0}, {2, -1 << 63}, {0, 1}, {-1, -1}, {2, 3}, {5, 1}, {1<<63 - 1, 1}, {1<<63 - 1, 1<<63 - 1}} {
		if got := Make("abcd", c.k, c.d, 4); got != "" {
			t.Errorf("Make by %d and %d is %q", c.k, c.d, got)
		}
	}
}

func TestFind(t *testing.T) {
	p := find("ababa", 2)
	for at, want := range []struct{ previous, first int }{{-1, 0}, {-1, 1}, {0, 0}, {1, 1}} {
		if p.previous[at] != want.previous || p.first[at] != want.first {
			t.Errorf("at %d: %d, %d, want %d, %d", at, p.previous[at], p.first[at], want.previous, want.first)
		}
	}
	if len(p.first) != 4 || p.times[0] != 2 || p.times[1] != 2 {
		t.Errorf("ab and ba stand at two places each of four: %v", p.times)
	}
}

func TestScoreAndTake(t *testing.T) {
	p := find("ababc", 1)
	if got := p.score(0, 3); got != 4 {
		t.Errorf("aba has the score %d, want 4", got)
	}
	if start, score := p.best(3); start != 2 || score != 5 {
		t.Errorf("the best window is at %d with %d, want 2 with 5", start, score)
	}
	p.take(0, 1)
	if got := p.score(2, 3); got != 3 {
		t.Errorf("without a, abc has the score %d, want 3", got)
	}
	p.take(2, 3)
	if start, score := p.best(3); start != 0 || score != 0 {
		t.Errorf("nothing is left, but %d is best with %d", start, score)
	}
}
