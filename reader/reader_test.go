package reader_test

import (
	"reflect"
	"testing"

	"warrant/api"
	"warrant/clause"
	"warrant/reader"
)

func TestProgramIsReadWhole(t *testing.T) {
	got, fault := reader.Program("p(Y, f(X,a), Y) :- q, r(X,Zz1). q.")
	want := []clause.Clause{
		{
			Head: []clause.Symbol{{Name: "p", Args: 3}, {Number: 0}, {Name: "f", Args: 2}, {Number: 1}, {Name: "a"}, {Number: 0}},
			Body: [][]clause.Symbol{
				{{Name: "q"}},
				{{Name: "r", Args: 2}, {Number: 1}, {Number: 2}},
			},
			Variables: []string{"Y", "X", "Zz1"},
		},
		{Head: []clause.Symbol{{Name: "q"}}},
	}
	if fault != (reader.Fault{}) || !reflect.DeepEqual(got, want) {
		t.Errorf("read %v, %v, want %v", got, fault, want)
	}
}

func TestQueryIsReadWhole(t *testing.T) {
	got, fault := reader.Query("p(B,A),q(A).")
	want := clause.Clause{
		Body: [][]clause.Symbol{
			{{Name: "p", Args: 2}, {Number: 0}, {Number: 1}},
			{{Name: "q", Args: 1}, {Number: 1}},
		},
		Variables: []string{"B", "A"},
	}
	if fault != (reader.Fault{}) || !reflect.DeepEqual(got, want) {
		t.Errorf("read %v, %v, want %v", got, fault, want)
	}
}

func TestNothingIsReadWithAFault(t *testing.T) {
	for _, c := range []struct {
		s     string
		place int
	}{{"a. b. c", 7}, {"a. p(X) :- q(X), ?", 17}} {
		clauses, fault := reader.Program(c.s)
		if clauses != nil || fault != (reader.Fault{Err: api.ErrText, Place: c.place}) {
			t.Errorf("Program(%q): %v, %v", c.s, clauses, fault)
		}
	}
	for _, c := range []struct {
		s     string
		place int
	}{{"a. b", 3}, {"p(X), q(X", 9}} {
		query, fault := reader.Query(c.s)
		if !reflect.DeepEqual(query, clause.Clause{}) || fault != (reader.Fault{Err: api.ErrText, Place: c.place}) {
			t.Errorf("Query(%q): %v, %v", c.s, query, fault)
		}
	}
}

func TestBoth(t *testing.T) {
	for _, c := range []struct {
		program, query string
		want           api.Errno
	}{
		{"a.", "a.", api.OK}, {"", "a.", api.OK}, {"a", "a.", api.ErrProgram}, {"a.", "a", api.ErrQuery}, {"a", "a", api.ErrProgram}, {"", "", api.ErrQuery},
	} {
		clauses, query, err := reader.Both(c.program, c.query)
		if err != c.want || (err != api.OK && (clauses != nil || query.Body != nil)) {
			t.Errorf("%q, %q: %v, %v, %d, want %d", c.program, c.query, clauses, query, err, c.want)
		}
	}
}
