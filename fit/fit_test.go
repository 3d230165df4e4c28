package fit_test

import (
	"slices"
	"testing"

	"warrant/api"
	"warrant/clause"
	"warrant/fit"
)

// atom makes an atom of symbols: a capital letter is a variable, a small one a name with as many terms as the digit behind it says.
func atom(s string) []clause.Symbol {
	var list []clause.Symbol
	for i := 0; i < len(s); i++ {
		if s[i] >= 'A' && s[i] <= 'Z' {
			list = append(list, clause.Symbol{Number: int(s[i] - 'A')})
			continue
		}
		list = append(list, clause.Symbol{Name: s[i : i+1], Args: int(s[i+1] - '0')})
		i++
	}
	return list
}

// counted is a name with n terms s(..s(z)) of some sizes.
func counted(sizes ...int) []clause.Symbol {
	list := []clause.Symbol{{Name: "p", Args: len(sizes)}}
	for _, size := range sizes {
		for range size - 1 {
			list = append(list, clause.Symbol{Name: "s", Args: 1})
		}
		list = append(list, clause.Symbol{Name: "z"})
	}
	return list
}

func TestWidest(t *testing.T) {
	for _, c := range []struct {
		first, second string
		outcome       fit.Outcome
		from, to      string // an atom, and what becomes of it
	}{
		{"a0", "a0", fit.Fits, "p1X", "p1X"},
		{"a0", "b0", fit.Unlike, "", ""},
		{"a0", "a1b0", fit.Unlike, "", ""},
		{"p1A", "p1b0", fit.Fits, "q2AB", "q2b0B"},
		{"p1b0", "p1A", fit.Fits, "q2AB", "q2b0B"},
		{"p2Aa0", "p2b0B", fit.Fits, "q2AB", "q2b0a0"},
		{"p2AA", "p2a0b0", fit.Unlike, "", ""},
		{"p2Af1A", "p2BB", fit.Unlike, "", ""},
		{"p2AB", "p2f1Bf1A", fit.Unlike, "", ""},
		{"p2AB", "p2f1Cf1A", fit.Fits, "q2AB", "q2f1Cf1f1C"},
		{"p3ABC", "p3f2BBf2CCa0", fit.Fits, "A", "f2f2a0a0f2a0a0"},
		{"p2f2ABf2BA", "p2CC", fit.Fits, "q1f2AB", "q1f2AA"},
	} {
		s, outcome := fit.Widest(atom(c.first), atom(c.second))
		if outcome != c.outcome {
			t.Errorf("%s and %s: %d, want %d", c.first, c.second, outcome, c.outcome)
		}
		got, isSmall := s.Apply(atom(c.from))
		// two variables that become the same one may both be called by the name of either
		want := atom(c.to)
		if !isSmall || len(got) != len(want) {
			t.Errorf("%s and %s: %s becomes %v, %t", c.first, c.second, c.from, got, isSmall)
			continue
		}
		for i := range got {
			if got[i].Name != want[i].Name || got[i].Args != want[i].Args {
				t.Errorf("%s and %s: %s becomes %v, want %v", c.first, c.second, c.from, got, want)
			}
		}
	}
}

func TestWidestMakesBothTheSame(t *testing.T) {
	first, second := atom("p4ABf2CDg1C"), atom("p4f2EFEGH")
	s, outcome := fit.Widest(first, second)
	one, _ := s.Apply(first)
	other, _ := s.Apply(second)
	if outcome != fit.Fits || !slices.Equal(one, other) {
		t.Errorf("%d: %v, %v", outcome, one, other)
	}
	again, _ := s.Apply(one)
	if !slices.Equal(one, again) {
		t.Errorf("%v becomes %v when it is applied again", one, again)
	}
}

func TestSizes(t *testing.T) {
	for _, c := range []struct {
		size    int
		outcome fit.Outcome
	}{
		{13, fit.Fits}, {14, fit.Fits}, {15, fit.TooLarge}, {28, fit.TooLarge},
	} {
		// both become p with twice the term and one more
		_, outcome := fit.Widest(atom("p3AAz0"), counted(c.size, c.size, 1))
		if outcome != c.outcome {
			t.Errorf("%d: %d, want %d", c.size, outcome, c.outcome)
		}
	}
	s, _ := fit.Widest(atom("p1A"), counted(14))
	if got, isSmall := s.Apply(atom("q3AAz0")); len(got) != api.MaxSize || !isSmall {
		t.Errorf("%d, %t", len(got), isSmall)
	}
	if got, isSmall := s.Apply(atom("q3AAs1z0")); got != nil || isSmall {
		t.Errorf("%d, %t", len(got), isSmall)
	}
	if got, isSmall := s.Apply(atom("q3AAA")); got != nil || isSmall {
		t.Errorf("%d, %t", len(got), isSmall)
	}
}

func TestNothingIsChangedOrShared(t *testing.T) {
	first, second, other := atom("p2AB"), atom("p2f1Cb0"), atom("q2AD")
	s, _ := fit.Widest(first, second)
	got, _ := s.Apply(other)
	clear(got)
	again, _ := s.Apply(other)
	if !slices.Equal(first, atom("p2AB")) || !slices.Equal(second, atom("p2f1Cb0")) || !slices.Equal(other, atom("q2AD")) {
		t.Errorf("%v, %v, %v", first, second, other)
	}
	if !slices.Equal(again, atom("q2f1CD")) {
		t.Errorf("%v", again)
	}
}

// No atom that the reader makes is like these, but none of them may end the program.
func TestBrokenAtoms(t *testing.T) {
	broken := [][]clause.Symbol{nil, atom("p3A"), atom("p2"), atom("p1f2A"), atom("p0A"), atom("AB"), {{Number: -1}}, {{Name: "p", Args: -1}, {Number: -7}}, {{Name: "p", Args: 1 << 40}}}
	for _, first := range broken {
		for _, second := range broken {
			s, _ := fit.Widest(first, second)
			s.Apply(first)
			s.Apply(second)
		}
	}
}
