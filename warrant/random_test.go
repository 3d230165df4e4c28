package warrant_test

import (
	"fmt"
	"math/rand"
	"strings"
	"testing"

	"warrant/api"
	"warrant/warrant"
)

// compare plays a search beside the record of one, with Steps as next tells, till it has ended or steps are used up.
func compare(t *testing.T, program, query string, steps int, next func() int) *replay {
	t.Helper()
	x, err := warrant.New(program, query)
	if err != api.OK || x == nil {
		t.Fatalf("New(%q, %q): %d", program, query, err)
	}
	want := &replay{record: recordOf(program, query)}
	for range steps {
		same(t, x, want, program, query)
		n := next()
		made, err := x.Step(n)
		wantMade, wantErr := want.step(n)
		if made != wantMade || err != wantErr {
			t.Fatalf("%q, %q: behind %d tries Step(%d) = %d, %d, want %d, %d", program, query, want.made, n, made, err, wantMade, wantErr)
		}
		if (want.status == api.No || want.status == api.Full) && n == api.MaxSteps {
			break
		}
	}
	same(t, x, want, program, query)
	if want.status == api.No {
		tells(t, program, query, x.Tree(), want.answers())
	}
	return want
}

// same holds what a search tells against the record of one.
func same(t *testing.T, x *warrant.Search, want *replay, program, query string) {
	t.Helper()
	if x.Status() != want.status || x.Answer() != want.answer || x.Warrant() != want.warrant {
		t.Fatalf("%q, %q: behind %d tries: %d, %q, %q, want %d, %q, %q", program, query, want.made, x.Status(), x.Answer(), x.Warrant(), want.status, want.answer, want.warrant)
	}
	if x.Tree() != want.tree || x.Tree() != want.tree {
		t.Fatalf("%q, %q: behind %d tries: %d, the tree %q, want %q", program, query, want.made, x.Status(), x.Tree(), want.tree)
	}
}

// allAtOnce plays with Steps as large as may be.
func allAtOnce(t *testing.T, program, query string) *replay {
	t.Helper()
	return compare(t, program, query, api.MaxTries+5, func() int { return api.MaxSteps })
}

// guesser makes random programs and queries that often fit.
type guesser struct {
	*rand.Rand
	depth      int
	variables  int
	predicates int
}

func (w *guesser) term(depth int) string {
	k := w.Intn(10)
	switch {
	case k < 4:
		return fmt.Sprintf("%c", 'U'+w.Intn(w.variables))
	case k < 6 || depth == 0:
		return string("abz"[w.Intn(3)])
	case k < 8:
		return "s(" + w.term(depth-1) + ")"
	}
	return "f(" + w.term(depth-1) + "," + w.term(depth-1) + ")"
}

// list is three terms, most of them with others inside.
func (w *guesser) list() string {
	var terms []string
	for range 3 {
		term := w.term(w.depth)
		if w.Intn(2) == 0 {
			term = "f(" + term + "," + w.term(w.depth) + ")"
		}
		terms = append(terms, term)
	}
	return strings.Join(terms, ",")
}

func (w *guesser) atom() string {
	switch w.Intn(w.predicates) {
	case 0:
		return "p(" + w.term(w.depth) + ")"
	case 1:
		return "r(" + w.term(w.depth) + "," + w.term(w.depth) + ")"
	case 2:
		return "q(" + w.term(w.depth) + ")"
	}
	return "o"
}

func (w *guesser) atoms(most int) string {
	list := []string{w.atom()}
	for len(list) < most && w.Intn(2) == 0 {
		list = append(list, w.atom())
	}
	return strings.Join(list, ",")
}

func (w *guesser) program() string {
	text := ""
	for range 1 + w.Intn(10) {
		line := w.atom() + "."
		if w.Intn(2) == 0 {
			line = w.atom() + ":-" + w.atoms(6) + "."
		}
		if len(text)+len(line) <= api.MaxProgram {
			text += line
		}
	}
	return text
}

func (w *guesser) query() string {
	for {
		text := w.atoms(4) + "."
		if len(text) <= api.MaxQuery {
			return text
		}
	}
}

// texts are a program and a query of the same kind.
func (w *guesser) texts() (string, string) {
	w.depth = w.Intn(4)
	w.variables = 1 + w.Intn(5)
	w.predicates = 1 + w.Intn(4)
	program := w.program()
	return program, w.query()
}

func TestRandomSearches(t *testing.T) {
	w := &guesser{Rand: rand.New(rand.NewSource(6))}
	met := map[string]int{}
	for i := range 2000 {
		program, query := w.texts()
		next := func() int { return api.MaxSteps }
		switch i % 4 {
		case 1:
			next = func() int { return 1 }
		case 2:
			next = func() int { return w.Intn(5) }
		case 3:
			next = func() int { return []int{-1, 0, 1, 2, 7, 30, api.MaxSteps, api.MaxSteps + 1}[w.Intn(8)] }
		}
		want := compare(t, program, query, 400, next)
		met[[]string{"Seeks", "Answer", "No", "Full"}[want.status]]++
		met[want.bound]++
		if want.made == api.MaxTries {
			met["all tries"]++
		}
		for _, s := range want.tries[:want.made] {
			if strings.Contains(s, "=") {
				s = "answer"
			}
			met[s]++
		}
	}
	for _, kind := range []string{"No", "Full", "all tries", byGoals, byBranch, bySize, byReplaced, unlike, goesOn, tooMuch, "answer", "yes"} {
		if met[kind] < 5 {
			t.Errorf("the random searches come to %q only %d times", kind, met[kind])
		}
	}
}

// TestRandomFits makes much of terms that share variables, and of those that would stand in themselves.
func TestRandomFits(t *testing.T) {
	w := &guesser{Rand: rand.New(rand.NewSource(5))}
	met := map[string]int{}
	for range 20000 {
		w.depth = w.Intn(5)
		w.variables = 1 + w.Intn(6)
		query := "e(" + w.list() + ")."
		program := "e(" + w.list() + ")."
		_, refusedProgram, _ := warrant.Program(program)
		_, refusedQuery, _ := warrant.Query(query)
		if refusedProgram != api.OK || refusedQuery != api.OK {
			continue
		}
		want := allAtOnce(t, program, query)
		kind := want.tries[0]
		if kind != unlike && kind != tooMuch {
			kind = "answer"
		}
		met[kind]++
	}
	for _, kind := range []string{unlike, tooMuch, "answer"} {
		if met[kind] < 5 {
			t.Errorf("the random fits come to %q only %d times", kind, met[kind])
		}
	}
}

// FuzzSearches plays searches for all texts that are taken.
func FuzzSearches(f *testing.F) {
	f.Add("plus(z,X,X). plus(s(X),Y,s(Z)):-plus(X,Y,Z).", "plus(X,Y,s(s(z))).", []byte{1, 2, 100})
	f.Add("eq(A,A).", "eq(f(X,Y),f(Y,Z)).", []byte{0, 1})
	f.Add("p(X):-p(s(X)).", "p(z).", []byte{255})
	f.Add("d(X,f(X,X)).", "d(A,B),d(B,C),d(C,D),d(D,E).", []byte{3})
	f.Add("", "a.", []byte{})
	f.Add("a", "a", []byte{9})
	f.Fuzz(func(t *testing.T, program string, query string, steps []byte) {
		_, programErr, _ := warrant.Program(program)
		_, queryErr, _ := warrant.Query(query)
		if programErr != api.OK || queryErr != api.OK {
			want := api.ErrProgram
			if programErr == api.OK {
				want = api.ErrQuery
			}
			if x, err := warrant.New(program, query); x != nil || err != want {
				t.Fatalf("New(%q, %q): %v, %d, want %d", program, query, x, err, want)
			}
			return
		}
		at := 0
		compare(t, program, query, len(steps)+20, func() int {
			at++
			if at > len(steps) {
				return api.MaxSteps
			}
			return int(steps[at-1]) - 1
		})
	})
}
