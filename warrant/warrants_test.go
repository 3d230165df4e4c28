package warrant_test

import (
	"fmt"
	"math/rand"
	"strings"
	"testing"

	"warrant/api"
	"warrant/warrant"
)

const two = "plus(X,Y,s(s(z)))."

// holds asks for what Yes and Explain tell of a warrant that holds.
func holds(t *testing.T, program, query, w, answer string, lines ...string) {
	t.Helper()
	if s, err, at := warrant.Yes(program, query, w); s != answer || err != api.OK || at != 0 {
		t.Errorf("Yes(%.90q, %q, %q) = %q, %d, %d, want %q", program, query, w, s, err, at, answer)
	}
	want := ""
	for _, l := range lines {
		want += l + "\n"
	}
	if s, err, at := warrant.Explain(program, query, w); s != want || err != api.OK || at != 0 {
		t.Errorf("Explain(%.90q, %q, %q) = %q, %d, %d, want %q", program, query, w, s, err, at, want)
	}
}

// fails asks for the error and the place of both calls.
func fails(t *testing.T, program, query, w string, want api.Errno, place int) {
	t.Helper()
	if s, err, at := warrant.Yes(program, query, w); s != "" || err != want || at != place {
		t.Errorf("Yes(%.90q, %.90q, %.90q) = %q, %d, %d, want %d, %d", program, query, w, s, err, at, want, place)
	}
	if s, err, at := warrant.Explain(program, query, w); s != "" || err != want || at != place {
		t.Errorf("Explain(%.90q, %.90q, %.90q) = %q, %d, %d, want %d, %d", program, query, w, s, err, at, want, place)
	}
}

func TestWarrantsOfTheDocument(t *testing.T) {
	x := begin(t, addition, two)
	for _, want := range []string{"0", "1.0", "1.1.0", ""} {
		if _, err := x.Step(100); err != api.OK || x.Warrant() != want {
			t.Errorf("%d, %q, want %q", err, x.Warrant(), want)
		}
	}
	holds(t, addition, two, "0", "X=z,Y=s(s(z))", "plus(z,s(s(z)),s(s(z))) by 0")
	holds(t, addition, two, "1.0", "X=s(z),Y=s(z)", "plus(s(z),s(z),s(s(z))) by 1", "  plus(z,s(z),s(z)) by 0")
	holds(t, addition, two, "1.1.0", "X=s(s(z)),Y=z", "plus(s(s(z)),z,s(s(z))) by 1", "  plus(s(z),z,s(z)) by 1", "    plus(z,z,z) by 0")
	fails(t, addition, two, "1", api.ErrWrong, 1)
	fails(t, addition, two, "0.0", api.ErrWrong, 1)
	fails(t, addition, two, "2", api.ErrWrong, 0)
	fails(t, addition, two, "1.1.1", api.ErrWrong, 2)
	fails(t, addition, two, "1.", api.ErrForm, 2)
	fails(t, addition, two, "01", api.ErrForm, 1)
	fails(t, addition, two, "", api.ErrForm, 0)
}

func TestWarrantOnlyWithAnAnswer(t *testing.T) {
	x := begin(t, addition, two)
	for i, c := range []struct {
		n    int
		want string
	}{
		{0, ""}, {1, "0"}, {-1, "0"}, {api.MaxSteps + 1, "0"}, {0, ""}, {-1, ""}, {1, ""}, {1, "1.0"}, {0, ""}, {0, ""}, {2, "1.1.0"}, {1, ""}, {1, ""},
	} {
		x.Step(c.n)
		if x.Warrant() != c.want || x.Warrant() != c.want {
			t.Errorf("behind %d Steps: %d, %q, want %q", i+1, x.Status(), x.Warrant(), c.want)
		}
	}
	// a search that is full has none, whether by a bound or by the tries
	x = begin(t, "p(X).p(X):-p(s(X)).", "p(z).")
	for range 29 {
		x.Step(api.MaxSteps)
	}
	if want := strings.Repeat("1.", 28) + "0"; x.Warrant() != want {
		t.Errorf("%q, want %q", x.Warrant(), want)
	}
	if x.Step(api.MaxSteps); x.Status() != api.Full || x.Warrant() != "" {
		t.Errorf("%d, %q", x.Status(), x.Warrant())
	}
	y, _ := untilTries(t, strings.Repeat("p(a).", 24), "p(a),p(a),p(a).")
	if y.Warrant() != "4.23.18" {
		t.Errorf("at the last try: %q", y.Warrant())
	}
	if y.Step(0); y.Status() != api.Full || y.Warrant() != "" {
		t.Errorf("%d, %q", y.Status(), y.Warrant())
	}
}

// The nodes on the way to an answer may have been tried with other clauses ahead, and have none left.
func TestWarrantsInOrder(t *testing.T) {
	for _, c := range []struct {
		program, query string
		want           []string
	}{
		{"p.", "p.", []string{"0"}},
		{"p.p.", "p,p.", []string{"0.0", "0.1", "1.0", "1.1"}},
		{"p(a).p(b).q(b).", "p(X),q(X).", []string{"1.2"}},
		{"p(a).p(b).q(b).", "q(X),p(X).", []string{"2.1"}},
		{"p:-q,r.q:-s.q.r.s.", "p,s.", []string{"0.1.4.3.4", "0.2.3.4"}},
		{strings.Repeat("b.", 9) + "a:-a1.a1.a1:-a2,a1.a2.", "a.", []string{"9.10", "9.11.12.10", "9.11.12.11.12.10"}},
		{strings.Repeat("b.", 23) + "a.", "a,a.", []string{"23.23"}},
	} {
		x := begin(t, c.program, c.query)
		for i, want := range c.want {
			if x.Step(api.MaxSteps); x.Warrant() != want {
				t.Errorf("%q, %q: warrant %d is %q, want %q", c.program, c.query, i, x.Warrant(), want)
			}
			if s, err, at := warrant.Yes(c.program, c.query, want); s != x.Answer() || err != api.OK || at != 0 {
				t.Errorf("Yes(%q, %q, %q) = %q, %d, %d, want %q", c.program, c.query, want, s, err, at, x.Answer())
			}
		}
	}
}

func TestWarrantForm(t *testing.T) {
	for _, c := range []struct {
		w     string
		place int
	}{
		{"", 0}, {".", 0}, {"x", 0}, {" 0", 0}, {"-0", 0}, {"+1", 0}, {"/", 0}, {":", 0}, {"\x00", 0}, {"\xff", 0}, {"\n", 0}, {"٣", 0}, {"(0!)", 0},
		{"0 ", 1}, {"0\n", 1}, {"0x", 1}, {"0,0", 1}, {"0:", 1}, {"0/", 1}, {"00", 1}, {"01", 1}, {"09", 1}, {"000", 1}, {"0!", 1},
		{"10x", 2}, {"100", 2}, {"10 ", 2}, {"999", 2}, {"123.4", 2}, {"10!", 2},
		{"0.", 2}, {"0..0", 2}, {"0. 0", 2}, {"0.x", 2}, {"0.-1", 2}, {"10.", 3}, {"10..", 3}, {"0.00", 3}, {"0.05", 3}, {"0.1x", 3}, {"0.123", 4}, {"1.0.", 4}, {"10.10.", 6}, {"1.0.10.1000", 9},
		// the form is asked for ahead of what a warrant says, wherever that is wrong
		{"99.", 3}, {"0.0.0.0.x", 8}, {"2.2.2.", 6},
		{strings.Repeat("0.", 200), 400}, {strings.Repeat("1.", 199) + "1x", 399}, {strings.Repeat("1.", 199) + "01", 399}, {strings.Repeat("x", 400), 0}, {strings.Repeat("1", 400), 2},
	} {
		fails(t, addition, two, c.w, api.ErrForm, c.place)
	}
	// each byte, where a number begins, behind a digit 0, behind another, behind two
	for b := range 256 {
		for _, ahead := range []string{"", "0", "1", "10", "1.", "1.0", "1.1", "1.10"} {
			judge(t, addition, two, ahead+string([]byte{byte(b)}))
		}
	}
}

func TestLongWarrants(t *testing.T) {
	again := "a:-a.a."
	longest := strings.Repeat("0.", 199) + "10" // 400 bytes
	fails(t, again, "a.", longest, api.ErrWrong, 100)
	fails(t, again, "a.", longest+"0", api.ErrLong, 0)
	fails(t, again, "a.", strings.Repeat("0.", 200), api.ErrForm, 400)
	fails(t, again, "a.", strings.Repeat("0.", 200)+"0", api.ErrLong, 0)
	fails(t, again, "a.", strings.Repeat("x", 401), api.ErrLong, 0)
	fails(t, again, "a.", strings.Repeat("0", 1<<22), api.ErrLong, 0)
	fails(t, again, "a.", strings.Repeat("0.", 1<<22)+"1", api.ErrLong, 0)
	// none that holds is longer than this: 99 numbers of two digits, and one more
	program := strings.Repeat("b.", 10) + "a:-a.a."
	if s, err, at := warrant.Yes(program, "a.", strings.Repeat("10.", 99)+"11"); s != "yes" || err != api.OK || at != 0 {
		t.Errorf("%q, %d, %d", s, err, at)
	}
	judge(t, program, "a.", strings.Repeat("10.", 99)+"11")
}

func TestRefusedTexts(t *testing.T) {
	long := strings.Repeat("a.", 1<<20)
	for _, program := range []string{"a", "X.", "abcdefghi.", "a:-.", "\xff", spaced("a.", 801), long} {
		for _, query := range []string{"a.", "a", "", "\x00", long} {
			for _, w := range []string{"0", "1", "", "x", "0.", strings.Repeat("0", 401), long} {
				fails(t, program, query, w, api.ErrProgram, 0)
			}
		}
	}
	for _, program := range []string{"", "a.", spaced("a.", 800)} {
		for _, query := range []string{"a", "", "a.a.", "X.", "abcdefghi.", "\x00", spaced("a.", 121), long} {
			for _, w := range []string{"0", "1", "", "x", "0.", strings.Repeat("0", 401), long} {
				fails(t, program, query, w, api.ErrQuery, 0)
			}
		}
	}
	holds(t, spaced("a.", 800), spaced("a.", 120), "0", "yes", "a by 0")
}

func TestWrongWarrants(t *testing.T) {
	const program = "p(X):-q(X),r(X).q(a).q(b).r(b)."
	for _, c := range []struct {
		program, query, w string
		place             int
	}{
		// goals are left
		{program, "p(X).", "0", 1}, {program, "p(X).", "0.2", 2}, {program, "p(X),q(Y).", "0.2.3", 3},
		// none is left
		{program, "p(X).", "0.2.3.0", 3}, {program, "p(X).", "0.2.3.1.1", 3}, {program, "q(X).", "1.99", 1}, {program, "q(X),r(X).", "2.3.3", 2},
		// there is no such clause
		{program, "p(X).", "4", 0}, {program, "p(X).", "99", 0}, {program, "p(X).", "0.4", 1}, {program, "p(X).", "0.2.10", 2}, {"", "a.", "0", 0}, {"", "a.", "0.0", 0}, {strings.Repeat("a.", 24), "a.", "24", 0},
		// it does not fit
		{program, "p(X).", "1", 0}, {program, "p(X).", "0.0", 1}, {program, "p(X).", "0.1.3", 2}, {program, "p(a).", "0.2", 1}, {"eq(A,A).", "eq(X,f(X)).", "0", 0}, {"p.", "p(X).", "0", 0}, {"p(X).", "p.", "0", 0}, {"p(X).q(Y).", "q(a),p(a).", "0.1", 0},
		// the first that is wrong is told
		{program, "p(X).", "1.99", 0}, {program, "p(X).", "0.99.1.1", 1}, {program, "p(X).", "0.1.3.99", 2},
	} {
		fails(t, c.program, c.query, c.w, api.ErrWrong, c.place)
	}
	holds(t, program, "p(X).", "0.2.3", "X=b", "p(b) by 0", "  q(b) by 2", "  r(b) by 3")
	holds(t, strings.Repeat("a.", 24), "a.", "23", "yes", "a by 23")
}

// Each bound is met by a warrant that holds, or that goes on, and passed by one more.
func TestWarrantsThatAreTooMuch(t *testing.T) {
	// seven tries leave 36 goals, and the eighth 40 or 41
	fails(t, "a:-a,a,a,a,a,a.a:-a,a,a,a,a.", "a.", "0.0.0.0.0.0.0.1", api.ErrWrong, 8)
	fails(t, "a:-a,a,a,a,a,a.a:-a,a,a,a,a.", "a.", "0.0.0.0.0.0.0.0", api.ErrWrong, 7)
	met := "0.0.0.0.0.0.0.1" + strings.Repeat(".2", 40)
	if s, err, at := warrant.Yes("a:-a,a,a,a,a,a.a:-a,a,a,a,a.a.", "a.", met); s != "yes" || err != api.OK || at != 0 {
		t.Errorf("40 goals: %q, %d, %d", s, err, at)
	}
	// a way of 100 tries, and of one more
	if s, err, at := warrant.Yes("a:-a.a.", "a.", strings.Repeat("0.", 99)+"1"); s != "yes" || err != api.OK || at != 0 {
		t.Errorf("100 tries: %q, %d, %d", s, err, at)
	}
	fails(t, "a:-a.a.", "a.", strings.Repeat("0.", 100)+"1", api.ErrWrong, 100)
	fails(t, "a:-a.a.", "a.", strings.Repeat("0.", 100)+"0", api.ErrWrong, 100)
	fails(t, "a:-a.a.", "a.", strings.Repeat("0.", 99)+"0", api.ErrWrong, 100)
	large := nested(13, "z")
	for _, c := range []struct{ program, met, passed, w, why string }{
		{"p(X,Y):-q(X,X,Y).q(X,Y,Z).", "p(" + large + ",z).", "p(" + large + ",s(z)).", "0.1", bySize},
		{"p(" + large + ").q(X,Y,Z).", "p(X),q(X,X,z).", "p(X),q(X,X,s(z)).", "0.1", bySize},
		{"p(" + large + ").q(X,Y,Z).r.", "p(X),r,q(X,X,z).", "p(X),r,q(X,X,s(z)).", "0.2.1", bySize},
		{"p(" + large + ",X,Y).", "p(X,X,z).", "p(X,X,s(z)).", "0", byReplaced},
		{"p(X,Y,Z):-q(X).q(" + large + ").", "p(X,X,z).", "p(X,X,s(z)).", "0.1", byReplaced},
		{"p(X,Y,Z).q(" + large + ").r.", "p(X,X,z),r,q(X).", "p(X,X,s(z)),r,q(X).", "0.2.1", byReplaced},
	} {
		if why := judge(t, c.program, c.met, c.w); why != "" {
			t.Errorf("%q, %q, %q: %s", c.program, c.met, c.w, why)
		}
		if why := judge(t, c.program, c.passed, c.w); why != c.why {
			t.Errorf("%q, %q, %q: %s", c.program, c.passed, c.w, why)
		}
	}
	holds(t, "p("+large+",X,Y).", "p(X,X,z).", "0", "X="+large, "p("+large+","+large+",z) by 0")
	fails(t, "p("+large+",X,Y).", "p(X,X,s(z)).", "0", api.ErrWrong, 0)
	fails(t, "p(X,Y,Z):-q(X).q("+large+").", "p(X,X,s(z)).", "0.1", api.ErrWrong, 1)
	// terms that are vast, but fit
	fails(t, "t(g(f(A,A,A),A,f(B,B,B),g(B,f(C,C,C),C))).", "t(g(H,f(I,I,I),I,g(f(J,J,J),J,f(K,K,K)))).", "0", api.ErrWrong, 0)
	// the bounds of a search's tries are none of a warrant's
	all := strings.Repeat("b.", 4) + strings.Repeat("d.", 10) + strings.Repeat("g.", 3) + strings.Repeat("e.", 6) + "c."
	holds(t, all, "b,d,g,c.", "3.13.16.23", "yes", "b by 3", "d by 13", "g by 16", "c by 23")
	holds(t, "p:-p.p.", "p.", "1", "yes", "p by 1")
}

func TestExplanations(t *testing.T) {
	// depths go down, stay, and go up by several at once
	holds(t, "a:-b,e.b:-c,d.c:-d,d.d.e:-d.", "a,d,e.", "0.1.2.3.3.3.4.3.3.4.3", "yes",
		"a by 0", "  b by 1", "    c by 2", "      d by 3", "      d by 3", "    d by 3", "  e by 4", "    d by 3", "d by 3", "e by 4", "  d by 3")
	holds(t, "a:-b,b,b,b,b,b.b.", "a,a.", "0.1.1.1.1.1.1.0.1.1.1.1.1.1", "yes",
		"a by 0", "  b by 1", "  b by 1", "  b by 1", "  b by 1", "  b by 1", "  b by 1", "a by 0", "  b by 1", "  b by 1", "  b by 1", "  b by 1", "  b by 1", "  b by 1")
	// what is found out later stands in the lines ahead too
	holds(t, "p(X,Y):-q(X),r(Y,X).q(Z).r(a,b).", "p(U,V),q(U).", "0.1.2.1", "U=b,V=a",
		"p(b,a) by 0", "  q(b) by 1", "  r(a,b) by 2", "q(b) by 1")
	// variables are left: of the query, of clauses, the same ones in several lines
	holds(t, "p(X).", "p(Y),p(X),p(Y).", "0.0.0", "Y=A,X=B", "p(A) by 0", "p(B) by 0", "p(A) by 0")
	holds(t, "p(X):-q(Y,X),q(X,Y).q(U,V).", "p(B),q(A,B).", "0.1.1.1", "B=A,A=B",
		"p(A) by 0", "  q(B,A) by 1", "  q(A,B) by 1", "q(C,A) by 1")
	holds(t, "p:-q(X,f(Y,X)).q(Z,W):-r(W,V).r(f(a,Z),W).", "p.", "0.1.2", "yes",
		"p by 0", "  q(A,f(a,A)) by 1", "    r(f(a,A),B) by 2")
	holds(t, addition, "plus(s(z),Second,Sum).", "1.0", "Second=A,Sum=s(A)", "plus(s(z),A,s(A)) by 1", "  plus(z,A,A) by 0")
	// numbers of two digits
	holds(t, strings.Repeat("b.", 10)+"a:-b.b(X).", "a,b(X),b(a).", "10.9.11.11", "X=A", "a by 10", "  b by 9", "b(A) by 11", "b(a) by 11")
}

// More variables than letters, and than letters with one digit; and as deep as may be.
func TestLargeExplanations(t *testing.T) {
	s, err, at := warrant.Explain("p(A,B,C,D):-p(E,F,G,H).p(A,B,C,D).", "p(A,B,C,D).", strings.Repeat("0.", 99)+"1")
	lines := strings.SplitAfter(s, "\n")
	if err != api.OK || at != 0 || len(lines) != 101 || lines[100] != "" {
		t.Fatalf("%d, %d, %d lines", err, at, len(lines)-1)
	}
	for i, want := range map[int]string{0: "p(A,B,C,D) by 0\n", 6: "p(Y,Z,A1,B1) by 0\n", 64: "p(W9,X9,Y9,Z9) by 0\n", 65: "p(A10,B10,C10,D10) by 0\n", 99: "p(G15,H15,I15,J15) by 1\n"} {
		if lines[i] != strings.Repeat("  ", i)+want {
			t.Errorf("line %d is %q, want %q", i, lines[i], want)
		}
	}
	judge(t, "p(A,B,C,D):-p(E,F,G,H).p(A,B,C,D).", "p(A,B,C,D).", strings.Repeat("0.", 99)+"1")
}

// What the calls tell hangs on nothing that was asked ahead, and changes no search.
func TestWarrantsSideBySide(t *testing.T) {
	x := begin(t, addition, two)
	want := &replay{record: recordOf(addition, two)}
	for range 8 {
		for _, w := range []string{"0", "1.0", "1.1.0", "1", "x", "", x.Warrant()} {
			judge(t, addition, two, w)
			judge(t, addition, "plus(X,Y,Z).", w)
			judge(t, "p(X):-p(Y).p(a).", "p(X).", w)
			same(t, x, want, addition, two)
		}
		x.Step(1)
		want.step(1)
		same(t, x, want, addition, two)
	}
}

// changed makes another text of a warrant, often one that is nearly right.
func (w *guesser) changed(s string) string {
	at := w.Intn(len(s) + 1)
	piece := []string{"0", "1", "2", "9", ".", ".0", ".1", "x", "23"}[w.Intn(9)]
	switch w.Intn(5) {
	case 0:
		return s[:at]
	case 1:
		return s + piece
	case 2:
		return s[:at] + piece + s[at:]
	case 3:
		return s[:at] + piece + s[min(at+1, len(s)):]
	}
	return s[:at] + s[min(at+1+w.Intn(2), len(s)):]
}

func TestRandomWarrants(t *testing.T) {
	w := &guesser{Rand: rand.New(rand.NewSource(9))}
	met := map[string]int{}
	for range 1500 {
		program, query := w.texts()
		x := begin(t, program, query)
		for range 5 {
			x.Step(300)
			if x.Status() != api.Answer {
				break
			}
			if why := judge(t, program, query, x.Warrant()); why != "" {
				t.Fatalf("%q, %q: the warrant %q of %q is refused: %s", program, query, x.Warrant(), x.Answer(), why)
			}
			met["found"]++
			for range 4 {
				met[judge(t, program, query, w.changed(x.Warrant()))]++
			}
		}
		for range 4 {
			met[judge(t, program, query, w.way(program, query))]++
		}
	}
	for _, kind := range []string{"found", "", badForm, noGoals, noClause, goalsLeft, unlike, byGoals, byBranch, bySize, byReplaced} {
		if met[kind] < 5 {
			t.Errorf("the random warrants come to %q only %d times", kind, met[kind])
		}
	}
}

// way goes down by clauses that fit, as long as there are any, and goes on once behind one that is too much.
func (w *guesser) way(program, query string) string {
	r := newRecord(program, query)
	p := topOf(query)
	text := ""
	for len(p.goals) > 0 {
		outcome := unlike
		for _, n := range w.Perm(len(r.program)) {
			var child place
			child, outcome = r.try(p, r.program[n])
			if outcome != unlike {
				text += fmt.Sprint(n, ".")
				p = child
				break
			}
		}
		if outcome != goesOn {
			break
		}
	}
	return text + "0"
}

// FuzzWarrants asks for all texts, those that are refused too.
func FuzzWarrants(f *testing.F) {
	f.Add(addition, two, "1.1.0")
	f.Add(addition, two, "1.1.01")
	f.Add("a:-a,a,a.a.", "a,a.", "0.1.1.1.1")
	f.Add("p(X):-p(s(X)).p(X).", "p(z).", strings.Repeat("0.", 29)+"1")
	f.Add("d(X,f(X,X)).", "d(A,B),d(B,C),d(C,D),d(D,E).", "0.0.0.0")
	f.Add("p(X,Y):-q(Y),q(X),p(Y,Z).q(U).p(a,b).", "p(A,B),q(B).", "0.1.1.2.1")
	f.Add("", "a.", "")
	f.Add("a", "a", "a")
	f.Fuzz(func(t *testing.T, program string, query string, w string) { judge(t, program, query, w) })
}
