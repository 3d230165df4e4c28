package warrant_test

import (
	"slices"
	"strings"
	"testing"

	"warrant/api"
	"warrant/warrant"
)

const addition = "plus(z,X,X). plus(s(X),Y,s(Z)):-plus(X,Y,Z)."

// step is a Step and what must be told of the search behind it.
type step struct {
	n      int
	made   int
	status int
	answer string
}

// play makes Steps that are no error.
func play(t *testing.T, program, query string, steps ...step) *warrant.Search {
	t.Helper()
	x := begin(t, program, query)
	for i, s := range steps {
		made, err := x.Step(s.n)
		if made != s.made || err != api.OK || x.Status() != s.status || x.Answer() != s.answer {
			t.Fatalf("%.90q, %q: step %d: Step(%d) = %d, %d, then %d, %q, want %d, then %d, %q", program, query, i, s.n, made, err, x.Status(), x.Answer(), s.made, s.status, s.answer)
		}
		if (x.Warrant() == "") != (s.status != api.Answer) {
			t.Fatalf("%.90q, %q: step %d: the status is %d, the warrant %q", program, query, i, s.status, x.Warrant())
		}
		if (x.Tree() == "") != (s.status != api.No) {
			t.Fatalf("%.90q, %q: step %d: the status is %d, the tree %q", program, query, i, s.status, x.Tree())
		}
	}
	return x
}

func begin(t *testing.T, program, query string) *warrant.Search {
	t.Helper()
	x, err := warrant.New(program, query)
	if x == nil || err != api.OK {
		t.Fatalf("New(%.90q, %q) = %v, %d", program, query, x, err)
	}
	if x.Status() != api.Seeks || x.Answer() != "" || x.Warrant() != "" || x.Tree() != "" {
		t.Fatalf("New(%.90q, %q): %d, %q, %q, %q", program, query, x.Status(), x.Answer(), x.Warrant(), x.Tree())
	}
	return x
}

// repeated is a text n times, with another between.
func repeated(s string, n int, between string) string {
	return strings.TrimSuffix(strings.Repeat(s+between, n), between)
}

func TestSearchesOfTheDocument(t *testing.T) {
	play(t, addition, "plus(X,Y,s(s(z))).",
		step{100, 1, api.Answer, "X=z,Y=s(s(z))"},
		step{100, 2, api.Answer, "X=s(z),Y=s(z)"},
		step{100, 2, api.Answer, "X=s(s(z)),Y=z"},
		step{100, 1, api.No, ""})
	play(t, addition, "plus(X,Y,s(s(z))).",
		step{1, 1, api.Answer, "X=z,Y=s(s(z))"},
		step{1, 1, api.Seeks, ""},
		step{1, 1, api.Answer, "X=s(z),Y=s(z)"},
		step{1, 1, api.Seeks, ""},
		step{1, 1, api.Answer, "X=s(s(z)),Y=z"},
		step{1, 1, api.No, ""})
	play(t, "eq(A,A).", "eq(X,f(X)).", step{5, 1, api.No, ""})
	play(t, "eq(A,A).", "eq(f(X,Y),f(Y,Z)).", step{5, 1, api.Answer, "X=A,Y=A,Z=A"})
	play(t, "p(X):-p(s(X)).", "p(z).", step{3000, 29, api.Full, ""})
	play(t, "", "p(z).", step{0, 0, api.No, ""})
	play(t, "", "p(X),q(X,Y).", step{0, 0, api.No, ""})
}

func TestNewRefuses(t *testing.T) {
	long := strings.Repeat("a.", 1<<20)
	for _, c := range []struct {
		program string
		query   string
		want    api.Errno
	}{
		{"a", "a.", api.ErrProgram},
		{"X.", "a.", api.ErrProgram},
		{"abcdefghi.", "a.", api.ErrProgram},
		{spaced("a.", 801), "a.", api.ErrProgram},
		{long, "a.", api.ErrProgram},
		{"a.", "a", api.ErrQuery},
		{"a.", "", api.ErrQuery},
		{"", "", api.ErrQuery},
		{"a.", "a.a.", api.ErrQuery},
		{"a.", "abcdefghi.", api.ErrQuery},
		{"a.", spaced("a.", 121), api.ErrQuery},
		{"a.", long, api.ErrQuery},
		{"a", "a", api.ErrProgram},
		{long, long, api.ErrProgram},
		{"abcdefghi.", "", api.ErrProgram},
		{"\xff", "\x00", api.ErrProgram},
		{"", "\x00", api.ErrQuery},
	} {
		if x, err := warrant.New(c.program, c.query); x != nil || err != c.want {
			t.Errorf("New(%.20q, %.20q) = %v, %d, want %d", c.program, c.query, x, err, c.want)
		}
	}
	begin(t, spaced("a.", 800), spaced("a.", 120))
}

func TestFits(t *testing.T) {
	for _, c := range []struct{ program, query, want string }{
		{"p.", "p.", "yes"},
		{"p.", "q.", ""},
		{"p.", "p(a).", ""},
		{"p(a).", "p.", ""},
		{"p(a).", "p(a,a).", ""},
		{"p(a).", "p(a).", "yes"},
		{"p(a).", "p(b).", ""},
		{"p(f(a)).", "p(f(a,b)).", ""},
		{"p(f(a)).", "p(f).", ""},
		{"p(f).", "p(f(X)).", ""},
		{"p(ab).", "p(a).", ""},
		{"p(X).", "p(a).", "yes"},
		{"p(a).", "p(X).", "X=a"},
		{"p(X).", "p(X).", "X=A"},
		{"p(X,X).", "p(a,b).", ""},
		{"p(X,X).", "p(a,Y).", "Y=a"},
		{"p(X,X).", "p(Y,a).", "Y=a"},
		{"p(X,X).", "p(Y,Z).", "Y=A,Z=A"},
		{"p(X,Y).", "p(Y,Y).", "Y=A"},
		{"p(X,X,Y,Y).", "p(A,B,B,C).", "A=A,B=A,C=A"},
		{"p(X,X,Y,Y).", "p(A,B,B,c).", "A=c,B=c"},
		{"p(X,X,Y,Y).", "p(a,B,B,c).", ""},
		{"p(f(X),X).", "p(X,Y).", "X=f(A),Y=A"},
		{"p(f(X),g(X)).", "p(f(a),Y).", "Y=g(a)"},
		{"p(f(X),g(X)).", "p(f(Y),g(b)).", "Y=b"},
		{"p(f(X),g(X)).", "p(f(a),g(b)).", ""},
		{"p(X,f(X)).", "p(Y,Y).", ""},
		{"p(X,X).", "p(Y,f(Y)).", ""},
		{"p(X,X).", "p(f(Y),Y).", ""},
		{"p(X,X).", "p(f(Y,Z),f(g(Z),g(Y))).", ""},
		{"p(X,Y,X,Y).", "p(A,B,f(B),f(A)).", ""},
		{"p(X,Y,Z,X).", "p(f(Y1),Y1,a,f(f(a))).", "Y1=f(a)"},
		{"p(X,f(X),f(f(X))).", "p(Y,Z,Z).", ""},
		{"p(X,Y,f(Y)).", "p(Z,g(Z),Z).", ""},
		{"p(f(X,Y),f(Y,X)).", "p(Z,Z).", "Z=f(A,A)"},
		{"p(f(X,Y),f(Y,X)).", "p(f(a,B),f(C,D)).", "B=A,C=A,D=a"},
		{"eq(A,A).", "eq(f(X,Y,Z),f(g(Y,Y),g(Z,Z),a)).", "X=g(g(a,a),g(a,a)),Y=g(a,a),Z=a"},
		{"eq(A,A).", "eq(f(f(X,Y),X),f(Z,g(Y))).", "X=g(A),Y=A,Z=f(g(A),A)"},
	} {
		status := api.Answer
		if c.want == "" {
			status = api.No
		}
		play(t, c.program, c.query, step{api.MaxSteps, 1, status, c.want}, step{0, 0, api.No, ""})
	}
}

// A term that few symbols make may be vast, and one that would stand in itself may be hidden in it.
func TestVastFits(t *testing.T) {
	head := "e(f(A,A,A,A),A,f(B,B,B,B),c(B,f(C,C,C,C),C,c(f(D,D,D,D),D,%))).m."
	query := "e(X,f(P,P,P,P),P,c(f(Q,Q,Q,Q),Q,f(R,R,R,R),c(R,S,%)))."
	for _, c := range []struct {
		in, out string
		status  int
		tries   int
	}{
		{"z", "z", api.Full, 1},
		{"a", "z", api.No, 2},
		{"A", "S", api.No, 2},
		{"D", "X", api.No, 2},
		{"D", "S", api.Full, 1},
		{"A", "P", api.No, 2},
		{"E", "X", api.Full, 1},
	} {
		play(t, strings.Replace(head, "%", c.in, 1), strings.Replace(query, "%", c.out, 1), step{api.MaxSteps, c.tries, c.status, ""})
	}
	play(t, "t(g(f(A,A,A),A,f(B,B,B),g(B,f(C,C,C),C))).", "t(g(H,f(I,I,I),I,g(f(J,J,J),J,f(K,K,K)))).", step{1, 1, api.Full, ""})
	play(t, "t(X,X,Y,Y).", "t(f(A,A,A,A),f(B,B,B,B),f(A,A,A,B),C).", step{1, 1, api.Answer, "A=A,B=A,C=f(A,A,A,A)"})
}

func TestOrderOfTries(t *testing.T) {
	// clauses are tried in their order, and what lies below a child comes ahead of the next clause
	play(t, "p(X):-q(X).p(c).q(a).q(b).", "p(X).",
		step{9, 4, api.Answer, "X=a"},
		step{9, 1, api.Answer, "X=b"},
		step{9, 1, api.Answer, "X=c"},
		step{9, 2, api.No, ""})
	play(t, "p(c).p(X):-q(X).q(a).q(b).", "p(X).",
		step{9, 1, api.Answer, "X=c"},
		step{9, 4, api.Answer, "X=a"},
		step{9, 1, api.Answer, "X=b"},
		step{9, 2, api.No, ""})
	// the atoms of a body come ahead of the other goals
	play(t, "p(X,Y):-q(X),q(Y).q(a).q(b).", "p(X,Y),q(Z).",
		step{9, 1 + 2 + 2 + 2, api.Answer, "X=a,Y=a,Z=a"},
		step{9, 1, api.Answer, "X=a,Y=a,Z=b"},
		step{9, 1 + 2, api.Answer, "X=a,Y=b,Z=a"},
		step{9, 1, api.Answer, "X=a,Y=b,Z=b"},
		step{9, 1 + 2 + 2, api.Answer, "X=b,Y=a,Z=a"})
	// the first goal is replaced, not another one
	play(t, "p(a).p(b).q(b).", "p(X),q(X).",
		step{9, 1 + 3 + 1 + 3, api.Answer, "X=b"},
		step{9, 1, api.No, ""})
	play(t, "p(a).p(b).q(b).", "q(X),p(X).",
		step{9, 3 + 2, api.Answer, "X=b"},
		step{9, 1, api.No, ""})
	// each use of a clause has variables of its own
	play(t, "p(X,Y).", "p(X,a),p(Y,X),p(Z,Z).", step{9, 3, api.Answer, "X=A,Y=B,Z=C"}, step{9, 0, api.No, ""})
	play(t, "l(n,X,X).l(c(H,T),X,c(H,U)):-l(T,X,U).", "l(c(A,n),B,C),l(c(B,n),A,D).",
		step{9, 6, api.Answer, "A=A,B=B,C=c(A,B),D=c(B,A)"},
		step{9, 2, api.No, ""})
}

func TestMaxGoals(t *testing.T) {
	// behind eight tries that fit, 40 goals are left, or 41
	program := ""
	for i := range 7 {
		program += "n" + string(rune('0'+i)) + ":-n" + string(rune('1'+i)) + ",b,b,b,b,b."
	}
	met := program + "n7:-b,b,b,b,b.b."
	passed := program + "n7:-b,b,b,b,b,b.b."
	tries := 1 + 2 + 3 + 4 + 5 + 6 + 7 + 8
	play(t, met, "n0.", step{tries, tries, api.Seeks, ""}, step{api.MaxSteps, 40 * 9, api.Answer, "yes"}, step{api.MaxSteps, 1 + 2 + 3 + 4 + 5 + 6 + 7 + 8, api.No, ""})
	play(t, passed, "n0.", step{tries - 1, tries - 1, api.Seeks, ""}, step{api.MaxSteps, 1, api.Full, ""}, step{api.MaxSteps, 0, api.Full, ""})
	// a clause that does not fit is not too much
	unlike := program + "n7(a):-b,b,b,b,b,b.b."
	play(t, unlike, "n0.", step{tries - 1, tries - 1, api.Seeks, ""}, step{api.MaxSteps, 2 + 2 + 3 + 4 + 5 + 6 + 7 + 8, api.No, ""})
}

// counting has two tries for each s and one for z; all but the first for each s are on the way.
const counting = "n(z).n(s(X)):-n(X)."

func TestMaxBranch(t *testing.T) {
	program := counting + "t:-n(" + nested(24, "z") + "),n(" + nested(24, "z") + "),n(" + nested(24, "z") + "),"
	// a way of 1 + 3*25 + 24 tries, and one of one more
	met := program + "n(" + nested(23, "z") + ")."
	passed := program + "n(" + nested(24, "z") + ")."
	play(t, met, "t.", step{api.MaxSteps, 3 + 3*49 + 47, api.Answer, "yes"})
	play(t, passed, "t.", step{3 + 3*49 + 48, 3 + 3*49 + 48, api.Seeks, ""}, step{api.MaxSteps, 1, api.Full, ""}, step{0, 0, api.Full, ""})
	// a node at the end of such a way may be tried, as long as nothing fits: there are 101, with three clauses
	unlike := program + "n(" + nested(24, "y") + ")."
	play(t, unlike, "t.", step{api.MaxSteps, 3 * 101, api.No, ""})
	// the try that is too much need not have goals behind it
	play(t, "a:-a.a.", "a.", step{100, 100, api.Seeks, ""}, step{1, 1, api.Full, ""})
	play(t, "a.a:-a.", "a,b.", step{400, 400, api.Seeks, ""}, step{1, 1, api.Full, ""})
}

func TestMaxSize(t *testing.T) {
	large := nested(13, "z") // has a size of 14
	for _, c := range []struct{ program, met, passed string }{
		// of an atom of the body
		{"p(X,Y):-q(X,X,Y).q(X,Y,Z).", "p(" + large + ",z).", "p(" + large + ",s(z))."},
		// of another goal
		{"p(" + large + ").q(X,Y,Z).", "p(X),q(X,X,z).", "p(X),q(X,X,s(z))."},
		{"p(" + large + ").q(X,Y,Z).r.", "p(X),r,q(X,X,z).", "p(X),r,q(X,X,s(z))."},
		// of the goal that is replaced by this try
		{"p(" + large + ",X,Y).", "p(X,X,z).", "p(X,X,s(z))."},
		{"p(X,X,Y).", "p(X," + large + ",z).", "p(X," + large + ",s(z))."},
		// of one that was replaced before
		{"p(X,Y,Z):-q(X).q(" + large + ").", "p(X,X,z).", "p(X,X,s(z))."},
		{"p(X,Y,Z):-r,q(X).q(" + large + ").r.", "p(X,X,z).", "p(X,X,s(z))."},
		{"p(X,Y,Z).q(" + large + ").r.", "p(X,X,z),r,q(X).", "p(X,X,s(z)),r,q(X)."},
		{"r:-r2(X),q(X).r2(X):-p(X,X,z).p(X,Y,Z).q(" + large + ").s:-p(X,X,s(z)),q(X).", "r.", "s."},
	} {
		met := allAtOnce(t, c.program, c.met)
		if met.status != api.No {
			t.Errorf("%q, %q: %d", c.program, c.met, met.status)
		}
		passed := allAtOnce(t, c.program, c.passed)
		if passed.status != api.Full {
			t.Errorf("%q, %q: %d", c.program, c.passed, passed.status)
		}
	}
	play(t, "p("+large+",X,Y).", "p(X,X,z).", step{9, 1, api.Answer, "X=" + large})
	play(t, "p("+large+",X,Y).", "p(X,X,s(z)).", step{9, 1, api.Full, ""})
	play(t, "p(s(X)):-p(X).", "p(X).", step{28, 28, api.Seeks, ""}, step{9, 1, api.Full, ""})
	play(t, "p(s(X)):-p(X).p(z).", "p("+nested(28, "z")+").", step{api.MaxSteps, 30, api.Answer, "yes"}, step{api.MaxSteps, 28, api.No, ""})
	// one that does not fit is not too much
	play(t, "q(z).p(X,X,X,z).", "p(Y,"+large+",Y,y).", step{9, 2, api.No, ""})
	play(t, "p(X,X,f(X,X,X,X),X).", "p(Y,"+large+",f(Z,Z,Z,Z),y).", step{9, 1, api.No, ""})
	play(t, "p(X,X,f(X,X,X,X),Y).", "p(Y,"+large+",f(Z,Z,Z,Z),y).", step{9, 1, api.Full, ""})
}

func TestMaxTries(t *testing.T) {
	// 1 + 4 + 40 + 80 nodes with 24 clauses: 3000 tries are all
	just := strings.Repeat("b.", 4) + strings.Repeat("d.", 10) + strings.Repeat("g.", 2) + strings.Repeat("e.", 8)
	play(t, just, "b,d,g,c.", step{3000, 3000, api.No, ""}, step{3000, 0, api.No, ""})
	play(t, just, "b,d,g,c.", step{2999, 2999, api.Seeks, ""}, step{0, 0, api.Seeks, ""}, step{3000, 1, api.No, ""})
	// 1 + 4 + 40 + 120 nodes: there are more
	more := strings.Repeat("b.", 4) + strings.Repeat("d.", 10) + strings.Repeat("g.", 3) + strings.Repeat("e.", 7)
	play(t, more, "b,d,g,c.", step{3000, 3000, api.Full, ""}, step{3000, 0, api.Full, ""})
	play(t, more, "b,d,g,c.", step{2999, 2999, api.Seeks, ""}, step{0, 0, api.Seeks, ""}, step{3000, 1, api.Full, ""}, step{0, 0, api.Full, ""})
	play(t, more, "b,d,g,c.", step{1500, 1500, api.Seeks, ""}, step{1500, 1500, api.Full, ""})
}

// untilTries steps from answer to answer till 3000 tries have been made.
func untilTries(t *testing.T, program, query string) (*warrant.Search, int) {
	t.Helper()
	x := begin(t, program, query)
	all, answers := 0, 0
	for all < api.MaxTries {
		made, err := x.Step(api.MaxSteps)
		all += made
		answers++
		if err != api.OK || x.Status() != api.Answer {
			t.Fatalf("%.40q, %q: behind %d tries: %d, %d", program, query, all, err, x.Status())
		}
	}
	if all != api.MaxTries {
		t.Fatalf("%.40q, %q: %d tries", program, query, all)
	}
	return x, answers
}

func TestAnswerAtTheLastTry(t *testing.T) {
	// the last clause fits all goals, so that the last try of all is an answer: 1 + 4 + 20 + 100 nodes
	none := strings.Repeat("p(b).", 3) + strings.Repeat("p(d).", 4) + strings.Repeat("p(g).", 4) + strings.Repeat("e.", 12) + "p(X)."
	x, answers := untilTries(t, none, "p(b),p(d),p(g),p(c).")
	if made, err := x.Step(0); answers != 100 || made != 0 || err != api.OK || x.Status() != api.No || x.Answer() != "" {
		t.Errorf("behind %d answers: %d, %d, %d, %q", answers, made, err, x.Status(), x.Answer())
	}
	// tries are left: 3000 = 4*(1+24*(1+24)) + 1+23*(1+24) + 1+19, with an answer at each of the innermost
	for _, n := range []int{0, 1, api.MaxSteps} {
		x, answers = untilTries(t, strings.Repeat("p(a).", 24), "p(a),p(a),p(a).")
		if answers != 4*24*24+23*24+19 || x.Answer() != "yes" {
			t.Errorf("%d answers, %q", answers, x.Answer())
		}
		if made, err := x.Step(-1); made != 0 || err != api.ErrArg || x.Status() != api.Answer || x.Answer() != "yes" {
			t.Errorf("Step(-1) = %d, %d, then %d, %q", made, err, x.Status(), x.Answer())
		}
		if made, err := x.Step(n); made != 0 || err != api.OK || x.Status() != api.Full || x.Answer() != "" {
			t.Errorf("Step(%d) = %d, %d, then %d, %q", n, made, err, x.Status(), x.Answer())
		}
	}
}

func refuses(t *testing.T, x *warrant.Search, n int) {
	t.Helper()
	status, answer, way, tree := x.Status(), x.Answer(), x.Warrant(), x.Tree()
	made, err := x.Step(n)
	if made != 0 || err != api.ErrArg || x.Status() != status || x.Answer() != answer || x.Warrant() != way || x.Tree() != tree {
		t.Errorf("Step(%d) = %d, %d, then %d, %q, %q, %q, and before %d, %q, %q, %q", n, made, err, x.Status(), x.Answer(), x.Warrant(), x.Tree(), status, answer, way, tree)
	}
}

func TestNumbersOfSteps(t *testing.T) {
	program := "p(X):-q(X).q(a).q(b).r(X):-r(s(X))."
	for _, c := range []struct {
		query string
		ahead []step // the Steps ahead of the one in question
		none  step
		most  step
	}{
		{"p(X).", nil, step{0, 0, api.Seeks, ""}, step{3000, 3, api.Answer, "X=a"}},
		{"p(X).", []step{{1, 1, api.Seeks, ""}}, step{0, 0, api.Seeks, ""}, step{3000, 2, api.Answer, "X=a"}},
		{"p(X).", []step{{3, 3, api.Answer, "X=a"}}, step{0, 0, api.Seeks, ""}, step{3000, 1, api.Answer, "X=b"}},
		{"q(X).", []step{{2, 2, api.Answer, "X=a"}, {1, 1, api.Answer, "X=b"}}, step{0, 0, api.Seeks, ""}, step{3000, 1, api.No, ""}},
		{"p(c).", []step{{3000, 8, api.No, ""}}, step{0, 0, api.No, ""}, step{3000, 0, api.No, ""}},
		{"r(z).", []step{{3000, 4 * 29, api.Full, ""}}, step{0, 0, api.Full, ""}, step{3000, 0, api.Full, ""}},
	} {
		play(t, program, c.query, slices.Concat(c.ahead, []step{c.most})...)
		play(t, program, c.query, slices.Concat(c.ahead, []step{c.none, c.none, c.most})...)
		x := play(t, program, c.query, c.ahead...)
		for _, n := range []int{-1, api.MaxSteps + 1, -1 << 63, 1<<63 - 1, -api.MaxSteps, 1 << 32} {
			refuses(t, x, n)
		}
		made, err := x.Step(api.MaxSteps)
		if made != c.most.made || err != api.OK || x.Status() != c.most.status || x.Answer() != c.most.answer {
			t.Errorf("%q: behind what was refused: %d, %d, %d, %q", c.query, made, err, x.Status(), x.Answer())
		}
	}
}

// events are the answers and the end of a search, each with how many tries were made up to it.
func events(t *testing.T, program, query string, n int) []step {
	t.Helper()
	x := begin(t, program, query)
	var list []step
	all := 0
	for x.Status() != api.No && x.Status() != api.Full {
		made, err := x.Step(n)
		all += made
		if err != api.OK || made > n || (made < n && x.Status() == api.Seeks) {
			t.Fatalf("%.60q, %q: Step(%d) = %d, %d, then %d", program, query, n, made, err, x.Status())
		}
		if x.Status() != api.Seeks {
			list = append(list, step{0, all, x.Status(), x.Answer()})
		}
	}
	return list
}

func TestSameTriesInOtherSteps(t *testing.T) {
	for _, c := range []struct {
		program, query string
		answers        int
		status         int // at the end
	}{
		{addition, "plus(X,Y," + nested(6, "z") + ").", 7, api.No},
		{addition, "plus(X,Y,Z).", 14, api.Full},
		{"p(a).p(b).p(X):-q(X).q(c).q(d).", "p(X),p(Y),q(Y).", 8, api.No},
		{"a.a:-a,b.b.", "a,a.", 40, api.Full},
		{strings.Repeat("a.", 24), "a,a,a,b.", 0, api.Full},
		{strings.Repeat("p(a).", 24), "p(a),p(X),p(a).", 4*24*24 + 23*24 + 19, api.Full},
	} {
		want := events(t, c.program, c.query, api.MaxSteps)
		if len(want) != c.answers+1 || want[c.answers].status != c.status {
			t.Errorf("%.60q, %q: %d events, at the end %v", c.program, c.query, len(want), want[len(want)-1])
		}
		for _, n := range []int{1, 2, 3, 5, 7, 40, 1000} {
			got := events(t, c.program, c.query, n)
			if !slices.Equal(got, want) {
				t.Errorf("%.60q, %q: in steps of %d: %v, want %v", c.program, c.query, n, got, want)
			}
		}
	}
}

func TestAnswers(t *testing.T) {
	for _, c := range []struct{ program, query, want string }{
		{"p.", "p.", "yes"},
		{"p(X).", "p(a),p(b).", "yes"},
		{"p(X,Y).", "p(Q,R).", "Q=A,R=B"},
		{"p(X,Y).", "p(R,Q).", "R=A,Q=B"},
		{"p(Y,X).", "p(R,Q).", "R=A,Q=B"},
		{"p(X,X).", "p(R,Q).", "R=A,Q=A"},
		{"p(X,Y).", "p(B,A).", "B=A,A=B"},
		{"p(f(X,Y),g(Y,X)).", "p(Long1234,Q).", "Long1234=f(A,B),Q=g(B,A)"},
		{"p(f(X,Y),g(Y,X)).", "p(Q,R),p(S,R).", "Q=f(A,B),R=g(B,A),S=f(A,B)"},
		{"p(X,f(X,Y)).", "p(C,D),p(D,B).", "C=A,D=f(A,B),B=f(f(A,B),C)"},
		{"q(X,Y):-p(Y,X).p(X,f(X)).", "q(A,B).", "A=f(A),B=A"},
		{"q(X):-p(X,Y).p(a,Y).", "q(A).", "A=a"},
		{"p(a,B).", "p(X,Y),p(Z,Y).", "X=a,Y=A,Z=a"},
		{"p(f(A,B,C,D),f(E,F,G,H),f(I,J,K,L),f(M,N,O,P)).", "p(A,B,C,D),p(E,F,G,H).", "A=f(A,B,C,D),B=f(E,F,G,H),C=f(I,J,K,L),D=f(M,N,O,P),E=f(Q,R,S,T),F=f(U,V,W,X),G=f(Y,Z,A1,B1),H=f(C1,D1,E1,F1)"},
		{"p(f(A,B,C,D),f(E,F,G,H),f(I,J,K,L),f(M,N,O,P)).", "p(A,B,C,D),p(E,F,G,H),p(I,J,K,L),p(M,N,O,P).", "A=f(A,B,C,D),B=f(E,F,G,H),C=f(I,J,K,L),D=f(M,N,O,P),E=f(Q,R,S,T),F=f(U,V,W,X),G=f(Y,Z,A1,B1),H=f(C1,D1,E1,F1),I=f(G1,H1,I1,J1),J=f(K1,L1,M1,N1),K=f(O1,P1,Q1,R1),L=f(S1,T1,U1,V1),M=f(W1,X1,Y1,Z1),N=f(A2,B2,C2,D2),O=f(E2,F2,G2,H2),P=f(I2,J2,K2,L2)"},
	} {
		x := begin(t, c.program, c.query)
		x.Step(api.MaxSteps)
		if x.Status() != api.Answer || x.Answer() != c.want || x.Answer() != c.want {
			t.Errorf("%q, %q: %d, %q, want %q", c.program, c.query, x.Status(), x.Answer(), c.want)
		}
		if made, err := x.Step(0); made != 0 || err != api.OK || x.Status() == api.Answer || x.Answer() != "" {
			t.Errorf("%q, %q: Step(0) = %d, %d, then %d, %q", c.program, c.query, made, err, x.Status(), x.Answer())
		}
	}
}

func TestSearchesSideBySide(t *testing.T) {
	texts := [][2]string{
		{addition, "plus(X,Y,s(s(z)))."},
		{addition, "plus(X,Y,s(s(z)))."},
		{addition, "plus(X,Y,Z)."},
		{"p(a).p(b).p(X):-q(X).q(c).q(d).", "p(X),p(Y),q(Y)."},
		{"p(X):-p(s(X)).", "p(z)."},
		{"", "a."},
	}
	var searches []*warrant.Search
	var records []*replay
	for _, s := range texts {
		searches = append(searches, begin(t, s[0], s[1]))
		records = append(records, &replay{record: recordOf(s[0], s[1])})
	}
	for turn := range 60 {
		for i, x := range searches {
			n := (turn*7+i*5)%6 - 1
			made, err := x.Step(n)
			wantMade, wantErr := records[i].step(n)
			if made != wantMade || err != wantErr {
				t.Fatalf("%q: Step(%d) = %d, %d, want %d, %d", texts[i][1], n, made, err, wantMade, wantErr)
			}
			for k, y := range searches {
				same(t, y, records[k], texts[k][0], texts[k][1])
			}
		}
	}
}
