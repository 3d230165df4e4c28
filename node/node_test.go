package node_test

import (
	"testing"

	"warrant/api"
	"warrant/clause"
	"warrant/node"
	"warrant/reader"
)

func top(t *testing.T, query string) node.Node {
	t.Helper()
	asked, fault := reader.Query(query)
	if fault.Err != api.OK {
		t.Fatalf("%q: %v", query, fault)
	}
	return node.Top(asked)
}

func clauseOf(t *testing.T, text string) clause.Clause {
	t.Helper()
	clauses, fault := reader.Program(text)
	if fault.Err != api.OK || len(clauses) != 1 {
		t.Fatalf("%q: %v", text, fault)
	}
	return clauses[0]
}

// text writes goals, values and goals that were replaced, with one order of variables for all.
func text(n node.Node) string {
	var names []string
	var all [][]clause.Symbol
	add := func(name string, list [][]clause.Symbol) {
		for range list {
			names = append(names, name)
		}
		all = append(all, list...)
	}
	add("goal", n.Goals)
	add("value", n.Values)
	add("replaced", n.Replaced)
	return clause.AnswerText(names, all)
}

func TestTries(t *testing.T) {
	for _, c := range []struct {
		query   string
		clauses []string
		want    string
	}{
		{"p.", nil, "goal=p"},
		{"p(X,Y),q(Y).", nil, "goal=p(A,B),goal=q(B),value=A,value=B"},
		{"p(X,Y),q(Y).", []string{"p(a,Z):-r(Z,W),s(W)."}, "goal=r(A,B),goal=s(B),goal=q(A),value=a,value=A,replaced=p(a,A)"},
		{"p(X,Y),q(Y).", []string{"p(a,Z):-r(Z,W),s(W).", "r(f(X),X)."}, "goal=s(A),goal=q(f(A)),value=a,value=f(A),replaced=p(a,f(A)),replaced=r(f(A),A)"},
		{"p(X,Y),q(Y).", []string{"p(X,X).", "q(b)."}, "value=b,value=b,replaced=p(b,b),replaced=q(b)"},
		{"p(X),p(Y).", []string{"p(s(X)):-p(X).", "p(s(X)):-p(X)."}, "goal=p(A),goal=p(B),value=s(s(A)),value=B,replaced=p(s(s(A))),replaced=p(s(A))"},
	} {
		n := top(t, c.query)
		for _, s := range c.clauses {
			before := text(n)
			child, outcome := n.Try(clauseOf(t, s))
			if outcome != node.Fits || text(n) != before {
				t.Errorf("%q, %q: %d; the node was %q and is %q", c.query, s, outcome, before, text(n))
			}
			n = child
		}
		if text(n) != c.want {
			t.Errorf("%q, %q: %q, want %q", c.query, c.clauses, text(n), c.want)
		}
	}
}

func TestTriesWithoutChild(t *testing.T) {
	for _, c := range []struct {
		query, clause string
		want          node.Outcome
	}{
		{"p(a).", "p(b).", node.Unlike},
		{"p(X,X).", "p(Y,f(Y)).", node.Unlike},
		{"p(a),q.", "q.", node.Unlike},
		{"p(X,X,X).", "p(s(s(s(s(s(s(s(s(s(z))))))))),Y,Z).", node.TooMuch},
		{"p(X),q(X,X,X).", "p(s(s(s(s(s(s(s(s(s(z)))))))))).", node.TooMuch},
	} {
		child, outcome := top(t, c.query).Try(clauseOf(t, c.clause))
		if outcome != c.want || text(child) != "yes" {
			t.Errorf("%q, %q: %q, %d, want %d", c.query, c.clause, text(child), outcome, c.want)
		}
	}
	done, _ := top(t, "p.").Try(clauseOf(t, "p."))
	if child, outcome := done.Try(clauseOf(t, "p.")); outcome != node.Unlike || len(child.Replaced) != 0 {
		t.Errorf("a node without goals: %d", outcome)
	}
}
