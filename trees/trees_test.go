package trees_test

import (
	"slices"
	"strings"
	"testing"

	"warrant/api"
	"warrant/reader"
	"warrant/trees"
)

func TestAnswers(t *testing.T) {
	const program = "p(X,Y):-q(X),q(Y).q(a).q(Z):-r.r."
	for _, c := range []struct {
		query, text string
		want        []string
		fault       reader.Fault
	}{
		{query: "p(U,V).", text: "(0(1(1!2(3!))2(3(1!2(3!)))))", want: []string{"U=a,V=a", "U=a,V=A", "U=A,V=a", "U=A,V=B"}},
		{query: "r,r.", text: "(3(3!))", want: []string{"yes"}},
		{query: "s(X).", text: "()"},
		{query: "p(b,V).", text: "(0(1(3!)))", fault: reader.Fault{Err: api.ErrWrong, Place: 3}},
		{query: "q(X).", text: "(1!)", fault: reader.Fault{Err: api.ErrWrong, Place: 3}},
		{query: "q(X).", text: "(1!2!)", fault: reader.Fault{Err: api.ErrWrong, Place: 4}},
		{query: "q(X).", text: "(1()2(3!))", fault: reader.Fault{Err: api.ErrWrong, Place: 2}},
		{query: "q(X).", text: "(1!2(3!)3!)", fault: reader.Fault{Err: api.ErrWrong, Place: 8}},
		{query: "q(X).", text: "(1!2(3!)", fault: reader.Fault{Err: api.ErrForm, Place: 8}},
		{query: "q(X).", text: "(9!)!", fault: reader.Fault{Err: api.ErrForm, Place: 4}},
		{query: "q(X).", text: "(03!)", fault: reader.Fault{Err: api.ErrForm, Place: 2}},
		{query: "q(X).", text: strings.Repeat("(1", 10000), fault: reader.Fault{Err: api.ErrForm, Place: 20000}},
		{query: "q(X).", text: strings.Repeat("(1", 10000) + "!", fault: reader.Fault{Err: api.ErrLong}},
		{query: "q(X)", text: "()", fault: reader.Fault{Err: api.ErrQuery}},
	} {
		got, fault := trees.Answers(program, c.query, c.text)
		if !slices.Equal(got, c.want) || fault != c.fault {
			t.Errorf("%q, %.40q: %q, %v, want %q, %v", c.query, c.text, got, fault, c.want, c.fault)
		}
	}
	if got, fault := trees.Answers("p", "q", "x"); got != nil || fault != (reader.Fault{Err: api.ErrProgram}) {
		t.Errorf("%q, %v", got, fault)
	}
}
