package warrant_test

import (
	"fmt"
	"regexp"
	"strconv"
	"strings"
	"testing"

	"warrant/api"
	"warrant/warrant"
)

// What Yes and Explain must tell, found apart from the program's way: the form
// by a pattern, the tries with the places of the other search, and the lines
// of Explain by a recursion that never has a list of goals.

// Why a warrant is refused, beside the bounds that a try may pass, and that it does not fit.
const (
	badForm   = "form"
	noGoals   = "no goals"
	noClause  = "no such clause"
	goalsLeft = "goals are left"
)

type verdict struct {
	answer string
	text   string
	err    api.Errno
	at     int
	why    string
}

var warrantForm = regexp.MustCompile(`^([0-9]|[1-9][0-9])(\.([0-9]|[1-9][0-9]))*$`)

// isBeginning asks whether something, if only a digit, can make the text a warrant.
func isBeginning(s string) bool {
	return warrantForm.MatchString(s) || warrantForm.MatchString(s+"0")
}

func verdictOf(program, query, w string) verdict {
	if _, err, _ := warrant.Program(program); err != api.OK {
		return verdict{err: api.ErrProgram}
	}
	if _, err, _ := warrant.Query(query); err != api.OK {
		return verdict{err: api.ErrQuery}
	}
	if len(w) > api.MaxWarrant {
		return verdict{err: api.ErrLong}
	}
	if !warrantForm.MatchString(w) {
		at := 0
		for at < len(w) && isBeginning(w[:at+1]) {
			at++
		}
		return verdict{err: api.ErrForm, at: at, why: badForm}
	}
	var numbers []int
	for _, digits := range strings.Split(w, ".") {
		n, _ := strconv.Atoi(digits)
		numbers = append(numbers, n)
	}
	return verdictOfNumbers(program, query, numbers)
}

func verdictOfNumbers(program, query string, numbers []int) verdict {
	r := newRecord(program, query)
	p := topOf(query)
	for i, n := range numbers {
		wrong := verdict{err: api.ErrWrong, at: i}
		switch {
		case len(p.goals) == 0:
			wrong.why = noGoals
			return wrong
		case n >= len(r.program):
			wrong.why = noClause
			return wrong
		}
		child, outcome := r.try(p, r.program[n])
		if outcome == unlike {
			wrong.why = unlike
			return wrong
		}
		if outcome == tooMuch {
			wrong.why = r.bound
			return wrong
		}
		p = child
	}
	if len(p.goals) > 0 {
		return verdict{err: api.ErrWrong, at: len(numbers), why: goalsLeft}
	}
	return verdict{answer: r.answer(p), text: explained(program, query, numbers)}
}

type line struct {
	depth  int
	goal   tree
	number int
}

// teller replaces each goal with all that lies below it, ahead of the goal beside it.
type teller struct {
	program []rule
	numbers []int
	bound   bindings
	lines   []line
}

func (e *teller) tell(goal tree, depth int) {
	n := e.numbers[len(e.lines)]
	e.lines = append(e.lines, line{depth, goal, n})
	prefix := fmt.Sprint(len(e.lines), " ")
	e.bound.unify(goal, e.program[n].head.called(prefix))
	for _, atom := range e.program[n].body {
		e.tell(atom.called(prefix), depth+1)
	}
}

// explained is asked for warrants that hold.
func explained(program, query string, numbers []int) string {
	e := &teller{program: readRules(program, false), numbers: numbers, bound: bindings{}}
	for _, goal := range readRules(query, true)[0].body {
		e.tell(goal.called("query "), 0)
	}
	var names []string
	text := ""
	for _, l := range e.lines {
		goal := e.bound.apply(l.goal)
		names = goal.variables(names)
		text += fmt.Sprintf("%*s%s by %d\n", 2*l.depth, "", goal.text(names), l.number)
	}
	return text
}

// judge holds Yes and Explain against the verdict, and gives why the warrant is refused.
func judge(t *testing.T, program, query, w string) string {
	t.Helper()
	want := verdictOf(program, query, w)
	if s, err, at := warrant.Yes(program, query, w); s != want.answer || err != want.err || at != want.at {
		t.Fatalf("Yes(%q, %q, %q) = %q, %d, %d, want %q, %d, %d (%s)", program, query, w, s, err, at, want.answer, want.err, want.at, want.why)
	}
	if s, err, at := warrant.Explain(program, query, w); s != want.text || err != want.err || at != want.at {
		t.Fatalf("Explain(%q, %q, %q) = %q, %d, %d, want %q, %d, %d (%s)", program, query, w, s, err, at, want.text, want.err, want.at, want.why)
	}
	return want.why
}
