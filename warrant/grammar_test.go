package warrant_test

import (
	"math/rand"
	"strings"
	"testing"

	"warrant/api"
	"warrant/clause"
	"warrant/warrant"
)

// The grammar as the document tells it: capitals stand for what can be
// replaced, n for a name, v for a variable, i for :-, and the other signs for themselves.
var grammar = map[byte][]string{
	'P': {"", "CP"},
	'Q': {"B."},
	'C': {"AD"},
	'D': {".", "iB."},
	'B': {"AE"},
	'E': {"", ",AE"},
	'A': {"nF"},
	'F': {"", "(TG)"},
	'G': {"", ",TG"},
	'T': {"v", "A"},
}

// behind gives all that may stand behind a sign, where one of these may stand ahead of it.
func behind(rests map[string]bool, sign byte) map[string]bool {
	next := map[string]bool{}
	var open []string
	for rest := range rests {
		open = append(open, rest)
	}
	for len(open) > 0 {
		rest := open[len(open)-1]
		open = open[:len(open)-1]
		if rest == "" {
			continue
		}
		if rest[0] == sign {
			next[rest[1:]] = true
		}
		for _, by := range grammar[rest[0]] {
			open = append(open, by+rest[1:])
		}
	}
	return next
}

func signOf(token string) byte {
	switch {
	case token == ":-":
		return 'i'
	case strings.Contains("(),.", token):
		return token[0]
	case token[0] >= 'a' && token[0] <= 'z':
		return 'n'
	case token[0] >= 'A' && token[0] <= 'Z':
		return 'v'
	}
	return '?'
}

// passes tells by counting commas, dots and brackets whether the last token is one too many.
func passes(tokens []string, query bool) bool {
	last := tokens[len(tokens)-1]
	if sign := signOf(last); sign != 'n' && sign != 'v' {
		return false
	}
	words, dots, atoms, body := 0, 0, 0, query
	var commas []int
	for _, token := range tokens[:len(tokens)-1] {
		switch sign := signOf(token); {
		case sign == 'n' || sign == 'v':
			words++
		case sign == '(':
			commas = append(commas, 0)
		case sign == ')':
			commas = commas[:len(commas)-1]
		case sign == ',' && len(commas) > 0:
			commas[len(commas)-1]++
		case sign == ',':
			words = 0
			atoms++
		case sign == 'i':
			words, atoms, body = 0, 0, true
		case sign == '.':
			words, atoms, body = 0, 0, false
			dots++
		}
	}
	tooMany := len(commas) > 0 && commas[len(commas)-1] >= api.MaxArgs
	return tooMany || len(last) > api.MaxName || words >= api.MaxSize || body && atoms >= api.MaxBody || dots >= api.MaxClauses
}

// written lays tokens out as P4 asks.
func written(tokens []string, query bool) string {
	var out strings.Builder
	depth := 0
	called := map[string]string{}
	for _, token := range tokens {
		switch sign := signOf(token); {
		case sign == 'v':
			if called[token] == "" {
				called[token] = clause.VariableName(len(called))
			}
			out.WriteString(called[token])
		case sign == 'i':
			out.WriteString(" :- ")
		case sign == ',' && depth == 0:
			out.WriteString(", ")
		case sign == '.' && !query:
			out.WriteString(".\n")
			called = map[string]string{}
		default:
			out.WriteString(token)
			depth += strings.Count(token, "(") - strings.Count(token, ")")
		}
	}
	return out.String()
}

// expect works out what must be answered to a text of these tokens, that begin at these places.
func expect(tokens []string, places []int, length int, query bool) textCase {
	rests := map[string]bool{"P": true}
	if query {
		rests = map[string]bool{"Q": true}
	}
	for i, token := range tokens {
		rests = behind(rests, signOf(token))
		if len(rests) == 0 {
			return textCase{err: api.ErrText, at: places[i]}
		}
		if passes(tokens[:i+1], query) {
			return textCase{err: api.ErrSize, at: places[i]}
		}
	}
	if !rests["P"] && !rests[""] {
		return textCase{err: api.ErrText, at: length}
	}
	return textCase{want: written(tokens, query)}
}

// layOut joins tokens; gap is asked for the blanks ahead of each of them and behind them all.
func layOut(tokens []string, gap func() string) (string, []int) {
	s := ""
	var places []int
	word := func(c byte) bool { return signOf(string(c)) == 'n' || signOf(string(c)) == 'v' || c >= '0' && c <= '9' }
	for _, token := range tokens {
		blanks := gap()
		if blanks == "" && s != "" && (word(s[len(s)-1]) && word(token[0]) || s[len(s)-1] == ':' && token[0] == '-') {
			blanks = " "
		}
		s += blanks
		places = append(places, len(s))
		s += token
	}
	return s + gap(), places
}

// holdAgainst compares what the call answers with what it must answer, and gives the error that was told.
func holdAgainst(t *testing.T, tokens []string, query bool, gap func() string) api.Errno {
	t.Helper()
	s, places := layOut(tokens, gap)
	call, bound := warrant.Program, api.MaxProgram
	if query {
		call, bound = warrant.Query, api.MaxQuery
	}
	want := textCase{err: api.ErrLong}
	if len(s) <= bound {
		want = expect(tokens, places, len(s), query)
	}
	text, err, at := call(s)
	if text != want.want || err != want.err || at != want.at {
		t.Fatalf("query %v, %q: %q, %d, %d, want %q, %d, %d", query, s, text, err, at, want.want, want.err, want.at)
	}
	return err
}

var everyKind = []string{"p", "X", "(", ")", ",", ".", ":-", "?"}

// TestEveryShortText goes through all texts of few tokens, but for those that are refused earlier.
func TestEveryShortText(t *testing.T) {
	none := func() string { return "" }
	count := 0
	var extend func(tokens []string, rests map[string]bool, query bool)
	extend = func(tokens []string, rests map[string]bool, query bool) {
		count++
		holdAgainst(t, tokens, query, none)
		if len(rests) == 0 || len(tokens) == 12 {
			return
		}
		for _, token := range everyKind {
			longer := append(append([]string{}, tokens...), token)
			extend(longer, behind(rests, signOf(token)), query)
		}
	}
	extend(nil, map[string]bool{"P": true}, false)
	extend(nil, map[string]bool{"Q": true}, true)
	if count < 10000 {
		t.Errorf("only %d texts were tried", count)
	}
}

// writer makes texts at random, often close to the bounds.
type writer struct {
	r      *rand.Rand
	tokens []string
	left   int // names and variables that the atom should still get
}

func (w *writer) add(tokens ...string) { w.tokens = append(w.tokens, tokens...) }

func (w *writer) name() string {
	if w.r.Intn(400) == 0 {
		return "abcdefghi"
	}
	return []string{"a", "b", "f", "aB9", "abcdefgh"}[w.r.Intn(5)]
}

func (w *writer) variable() string {
	if w.r.Intn(400) == 0 {
		return "Abcdefghi"
	}
	return []string{"A", "B", "X", "X1", "X11", "Abcdefgh"}[w.r.Intn(6)]
}

func (w *writer) atom() {
	w.add(w.name())
	w.left--
	if w.left <= 0 {
		return
	}
	args := 1 + w.r.Intn(4)
	if w.r.Intn(60) == 0 {
		args = 5
	}
	for i := 0; i < args; i++ {
		if i == 0 {
			w.add("(")
		} else {
			w.add(",")
		}
		if w.r.Intn(3) == 0 {
			w.add(w.variable())
			w.left--
		} else {
			w.atom()
		}
	}
	w.add(")")
}

func (w *writer) body(atoms int) {
	for i := 0; i < atoms; i++ {
		if i > 0 {
			w.add(",")
		}
		w.left = w.r.Intn(5)
		if w.r.Intn(10) == 0 {
			w.left = 18 + w.r.Intn(12)
		}
		w.atom()
	}
}

func (w *writer) program() {
	clauses := w.r.Intn(6)
	if w.r.Intn(4) == 0 {
		clauses = 23 + w.r.Intn(3)
	}
	for i := 0; i < clauses; i++ {
		w.body(1)
		if w.r.Intn(3) == 0 {
			w.add(":-")
			w.body(1 + w.r.Intn(5) + w.r.Intn(2) + w.r.Intn(20)/19)
		}
		w.add(".")
	}
}

// spoil changes a token here and there.
func (w *writer) spoil() {
	if len(w.tokens) == 0 || w.r.Intn(2) == 0 {
		return
	}
	at := w.r.Intn(len(w.tokens))
	stray := []string{"p", "X", "(", ")", ",", ".", ":-", "?", ":", "-", "7", "\t", "\x00", "\xc3"}
	switch w.r.Intn(3) {
	case 0:
		w.tokens[at] = stray[w.r.Intn(len(stray))]
	case 1:
		w.tokens = append(w.tokens[:at], w.tokens[at+1:]...)
	case 2:
		w.tokens = w.tokens[:at]
	}
}

func (w *writer) gap() string {
	if w.r.Intn(12) > 0 {
		return ""
	}
	return []string{" ", "\n", " \n ", "    "}[w.r.Intn(4)]
}

func TestTextsAtRandom(t *testing.T) {
	seen := map[api.Errno]int{}
	for seed := int64(0); seed < 6000; seed++ {
		query := seed%2 == 1
		w := &writer{r: rand.New(rand.NewSource(seed))}
		if query {
			w.body(1 + w.r.Intn(6) + w.r.Intn(8)/7)
			w.add(".")
		} else {
			w.program()
		}
		w.spoil()
		seen[holdAgainst(t, w.tokens, query, w.gap)]++
	}
	for _, err := range []api.Errno{api.OK, api.ErrLong, api.ErrText, api.ErrSize} {
		if seen[err] < 100 {
			t.Errorf("the answer %d came only %d times", err, seen[err])
		}
	}
}

// sound holds what P1 asks of every answer.
func sound(t *testing.T, s string, text string, err api.Errno, at int, bound int) {
	t.Helper()
	switch {
	case (err == api.ErrLong) != (len(s) > bound):
		t.Errorf("%.60q of %d bytes: error %d", s, len(s), err)
	case err != api.OK && err != api.ErrLong && err != api.ErrText && err != api.ErrSize:
		t.Errorf("%.60q: error %d", s, err)
	case err != api.OK && text != "":
		t.Errorf("%.60q: error %d, but the text %q", s, err, text)
	case (err == api.OK || err == api.ErrLong) && at != 0:
		t.Errorf("%.60q: error %d, but the place %d", s, err, at)
	case at < 0 || at > len(s):
		t.Errorf("%.60q: the place %d", s, at)
	}
}

func FuzzTexts(f *testing.F) {
	for _, s := range []string{"", "p(X):-q(X).", "\x00", "a:", "p(p(p(", "\xff\xfe", "a.\u00e9", strings.Repeat("p(", 401), strings.Repeat("p(a,", 200)} {
		f.Add(s)
	}
	f.Fuzz(func(t *testing.T, s string) {
		text, err, at := warrant.Program(s)
		sound(t, s, text, err, at, api.MaxProgram)
		if err == api.OK && len(text) <= api.MaxProgram {
			if again, err, _ := warrant.Program(text); again != text || err != api.OK {
				t.Errorf("%q is written as %q, and that as %q, %d", s, text, again, err)
			}
		}
		text, err, at = warrant.Query(s)
		sound(t, s, text, err, at, api.MaxQuery)
	})
}

func TestArbitraryBytes(t *testing.T) {
	r := rand.New(rand.NewSource(1))
	signs := "aX(),.:- \n0?\x00\xff"
	for i := 0; i < 20000; i++ {
		b := make([]byte, r.Intn(150)*(1+6*(i%2)))
		for j := range b {
			b[j] = signs[r.Intn(len(signs))]
			if i%3 == 0 {
				b[j] = byte(r.Intn(256))
			}
		}
		s := string(b)
		text, err, at := warrant.Program(s)
		sound(t, s, text, err, at, api.MaxProgram)
		text, err, at = warrant.Query(s)
		sound(t, s, text, err, at, api.MaxQuery)
	}
}
