package warrant_test

import (
	"fmt"
	"regexp"
	"slices"
	"sort"
	"strings"
	"testing"

	"warrant/api"
	"warrant/warrant"
)

// What All must tell, found apart from the program's way: the form by writing
// the innermost brackets smaller till nothing is left, and the rest by writing
// the one tree that holds, as far as is needed, and looking for the first
// piece in which the other is not like it.

// Why a tree is refused, beside its form and the bounds that a try may pass.
const (
	endsForGoals  = "! for a node that has goals"
	opensForNone  = "( for a node that has none"
	closesEarly   = ") ahead of a clause that fits"
	otherNumber   = "another number"
	oneTooMany    = "a number where no clause fits"
	tooMuchNumber = "the number of a try that is too much"
)

var innermost = regexp.MustCompile(`\(((0|[1-9][0-9]?)!)*\)`)

func isWholeTree(s string) bool {
	for {
		smaller := innermost.ReplaceAllString(s, "!")
		if smaller == s {
			return s == "!"
		}
		s = smaller
	}
}

// isBeginningOfTree asks whether the brackets that are open, with a node at most ahead of them, make the text a tree.
func isBeginningOfTree(s string) bool {
	open := strings.Count(s, "(") - strings.Count(s, ")")
	if open < 0 {
		return false
	}
	ends := strings.Repeat(")", open)
	return isWholeTree(s+ends) || isWholeTree(s+"!"+ends)
}

// piece is a bracket, a number or a `!` of a tree. Of the tree that holds, it
// may be the end of what can be told: the try behind it is too much.
type piece struct {
	text  string
	bound string
}

// growth writes the tree that holds, up to some number of pieces.
type growth struct {
	*record
	pieces  []piece
	found   []string
	most    int
	tooMuch bool
}

func (g *growth) isDone() bool { return g.tooMuch || len(g.pieces) >= g.most }

func (g *growth) add(text string) {
	if !g.isDone() {
		g.pieces = append(g.pieces, piece{text: text})
	}
}

func (g *growth) grow(p place) {
	if len(p.goals) == 0 {
		g.found = append(g.found, g.record.answer(p))
		g.add("!")
		return
	}
	g.add("(")
	for i, c := range g.program {
		if g.isDone() {
			return
		}
		child, outcome := g.try(p, c)
		switch outcome {
		case goesOn:
			g.add(fmt.Sprint(i))
			g.grow(child)
		case tooMuch:
			g.pieces = append(g.pieces, piece{fmt.Sprint(i), g.bound})
			g.tooMuch = true
		}
	}
	g.add(")")
}

func growthOf(program, query string, most int) *growth {
	g := &growth{record: newRecord(program, query), most: most}
	g.grow(topOf(query))
	return g
}

var pieceForm = regexp.MustCompile(`[0-9]+|[(!)]`)

type treeVerdict struct {
	answers []string
	err     api.Errno
	at      int
	why     string
}

func treeVerdictOf(program, query, shown string) treeVerdict {
	if _, err, _ := warrant.Program(program); err != api.OK {
		return treeVerdict{err: api.ErrProgram}
	}
	if _, err, _ := warrant.Query(query); err != api.OK {
		return treeVerdict{err: api.ErrQuery}
	}
	if len(shown) > api.MaxTree {
		return treeVerdict{err: api.ErrLong}
	}
	if !isWholeTree(shown) {
		at := sort.Search(len(shown), func(i int) bool { return !isBeginningOfTree(shown[:i+1]) })
		return treeVerdict{err: api.ErrForm, at: at, why: badForm}
	}
	places := pieceForm.FindAllStringIndex(shown, -1)
	g := growthOf(program, query, len(places))
	for i, from := range places {
		text := shown[from[0]:from[1]]
		if text != g.pieces[i].text || g.pieces[i].bound != "" {
			return treeVerdict{err: api.ErrWrong, at: from[0], why: difference(text, g.pieces[i])}
		}
	}
	return treeVerdict{answers: g.found}
}

func difference(text string, want piece) string {
	switch {
	case want.bound != "" && text == want.text:
		return tooMuchNumber + ": " + want.bound
	case text == "!":
		return endsForGoals
	case text == "(":
		return opensForNone
	case text == ")":
		return closesEarly
	case want.text == ")":
		return oneTooMany
	}
	return otherNumber
}

// judgeTree holds All against the verdict, and gives why the tree is refused.
func judgeTree(t *testing.T, program, query, shown string) string {
	t.Helper()
	want := treeVerdictOf(program, query, shown)
	l, err, at := warrant.All(program, query, shown)
	if !slices.Equal(l, want.answers) || err != want.err || at != want.at || (err != api.OK && l != nil) {
		t.Fatalf("All(%q, %q, %q) = %q, %d, %d, want %q, %d, %d (%s)", program, query, shown, l, err, at, want.answers, want.err, want.at, want.why)
	}
	return want.why
}
