package clause_test

import (
	"slices"
	"testing"

	"warrant/clause"
)

func name(s string, args int) clause.Symbol { return clause.Symbol{Name: s, Args: args} }

func variable(n int) clause.Symbol { return clause.Symbol{Number: n} }

func TestVariableName(t *testing.T) {
	for _, c := range []struct {
		n    int
		want string
	}{
		{0, "A"}, {1, "B"}, {25, "Z"}, {26, "A1"}, {27, "B1"}, {51, "Z1"}, {52, "A2"}, {259, "Z9"}, {260, "A10"}, {2600, "A100"},
	} {
		if got := clause.VariableName(c.n); got != c.want {
			t.Errorf("variable %d is called %q, want %q", c.n, got, c.want)
		}
	}
}

func TestProgramText(t *testing.T) {
	plain := []clause.Symbol{name("a", 0)}
	nested := []clause.Symbol{name("p", 3), name("f", 2), variable(1), name("g", 1), name("h", 1), variable(0), name("b", 0), name("s", 1), variable(26)}
	for _, c := range []struct {
		program []clause.Clause
		want    string
	}{
		{nil, ""},
		{[]clause.Clause{{Head: plain}}, "a.\n"},
		{[]clause.Clause{{Head: nested}}, "p(f(B,g(h(A))),b,s(A1)).\n"},
		{[]clause.Clause{{Head: plain, Body: [][]clause.Symbol{nested}}, {Head: plain}}, "a :- p(f(B,g(h(A))),b,s(A1)).\na.\n"},
		{[]clause.Clause{{Head: nested, Body: [][]clause.Symbol{plain, plain}}}, "p(f(B,g(h(A))),b,s(A1)) :- a, a.\n"},
	} {
		if got := clause.ProgramText(c.program); got != c.want {
			t.Errorf("wrote %q, want %q", got, c.want)
		}
	}
}

func TestQueryText(t *testing.T) {
	body := [][]clause.Symbol{{name("p", 2), variable(0), variable(1)}, {name("q", 1), variable(0)}}
	if got := clause.QueryText(clause.Clause{Body: body}); got != "p(A,B), q(A)." {
		t.Errorf("wrote %q", got)
	}
	if got := clause.QueryText(clause.Clause{Body: body[1:]}); got != "q(A)." {
		t.Errorf("wrote %q", got)
	}
}

func TestAnswerText(t *testing.T) {
	for _, c := range []struct {
		variables []string
		values    [][]clause.Symbol
		want      string
	}{
		{nil, nil, "yes"},
		{[]string{"X"}, [][]clause.Symbol{{variable(7)}}, "X=A"},
		{[]string{"X", "Long"}, [][]clause.Symbol{{name("a", 0)}, {name("s", 1), variable(0)}}, "X=a,Long=s(A)"},
		{[]string{"B", "A"}, [][]clause.Symbol{{variable(9)}, {name("f", 3), variable(3), variable(9), variable(3)}}, "B=A,A=f(B,A,B)"},
		{[]string{"X"}, nil, ""},
		{[]string{"X"}, [][]clause.Symbol{{variable(0)}, {variable(1)}}, "X=A"},
	} {
		if got := clause.AnswerText(c.variables, c.values); got != c.want {
			t.Errorf("wrote %q, want %q", got, c.want)
		}
	}
	values := [][]clause.Symbol{{variable(5)}}
	clause.AnswerText([]string{"X"}, values)
	if values[0][0].Number != 5 {
		t.Errorf("the values were changed: %v", values)
	}
}

func TestTexts(t *testing.T) {
	terms := [][]clause.Symbol{{name("p", 2), variable(8), variable(3)}, {variable(3)}, {name("a", 0)}, {name("f", 1), variable(0)}}
	want := []string{"p(A,B)", "B", "a", "f(C)"}
	if got := clause.Texts(terms); !slices.Equal(got, want) {
		t.Errorf("wrote %q, want %q", got, want)
	}
	if terms[0][1].Number != 8 {
		t.Errorf("the terms were changed: %v", terms)
	}
	if got := clause.Texts(nil); len(got) != 0 {
		t.Errorf("wrote %q of nothing", got)
	}
}
