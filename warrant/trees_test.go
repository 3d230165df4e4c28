package warrant_test

import (
	"fmt"
	"math/rand"
	"slices"
	"strings"
	"testing"

	"warrant/api"
	"warrant/warrant"
)

// tells asks for the answers of a tree that holds.
func tells(t *testing.T, program, query, shown string, answers []string) {
	t.Helper()
	if l, err, at := warrant.All(program, query, shown); !slices.Equal(l, answers) || err != api.OK || at != 0 {
		t.Errorf("All(%.90q, %q, %.90q) = %.200s, %d, %d, want %.200s", program, query, shown, fmt.Sprint(l), err, at, fmt.Sprint(answers))
	}
}

// failsAs asks for the error and the place of a tree that does not hold, or is none, or is not looked at.
func failsAs(t *testing.T, program, query, shown string, want api.Errno, place int) {
	t.Helper()
	if l, err, at := warrant.All(program, query, shown); l != nil || err != want || at != place {
		t.Errorf("All(%.90q, %.90q, %.90q) = %.200s, %d, %d, want %d, %d", program, query, shown, fmt.Sprint(l), err, at, want, place)
	}
}

// atEnd is a search that has ended with No, and the answers that it gave.
func atEnd(t *testing.T, program, query string) (*warrant.Search, []string) {
	t.Helper()
	x := begin(t, program, query)
	var answers []string
	for range api.MaxTries {
		x.Step(api.MaxSteps)
		if x.Status() != api.Answer {
			break
		}
		answers = append(answers, x.Answer())
	}
	if x.Status() != api.No {
		t.Fatalf("%.90q, %q: %d", program, query, x.Status())
	}
	return x, answers
}

// grows asks for the tree of a search, and for what All tells of it.
func grows(t *testing.T, program, query, shown string, answers ...string) {
	t.Helper()
	x, found := atEnd(t, program, query)
	if x.Tree() != shown || !slices.Equal(found, answers) {
		t.Errorf("%.90q, %q: %q, %q, want %q, %q", program, query, x.Tree(), found, shown, answers)
	}
	tells(t, program, query, shown, answers)
}

func TestTreesOfTheDocument(t *testing.T) {
	grows(t, addition, two, "(0!1(0!1(0!)))", "X=z,Y=s(s(z))", "X=s(z),Y=s(z)", "X=s(s(z)),Y=z")
	failsAs(t, addition, two, "(0!1(0!1()))", api.ErrWrong, 9)
	failsAs(t, addition, two, "(0!)", api.ErrWrong, 3)
	failsAs(t, addition, two, "!", api.ErrWrong, 0)
	failsAs(t, addition, two, "(0!1(0!1(0!))", api.ErrForm, 13)
	grows(t, "eq(A,A).", "eq(X,f(X)).", "()")
	grows(t, "eq(A,A).", "eq(f(X,Y),f(Y,Z)).", "(0!)", "X=A,Y=A,Z=A")
	grows(t, "", "p(X),q(X,Y).", "()")
}

func TestTrees(t *testing.T) {
	// one node: no clause fits, the first does, the last, some, all
	grows(t, "b.", "a.", "()")
	grows(t, "a.b.c.", "a.", "(0!)", "yes")
	grows(t, "b.c.a.", "a.", "(2!)", "yes")
	grows(t, "p(b).p(a).p(c).p(a).", "p(a).", "(1!3!)", "yes", "yes")
	grows(t, "p(b).p(a).p(X).", "p(Y).", "(0!1!2!)", "Y=b", "Y=a", "Y=A")
	// a child has goals that nothing fits, or is not an answer till its last goal
	grows(t, "a:-b.", "a.", "(0())")
	grows(t, "a:-b.a:-c.a.c:-b.", "a.", "(0()1(3())2!)", "yes")
	grows(t, "a.b.", "a,b,c.", "(0(1()))")
	grows(t, "a.b.c.", "a,b,c.", "(0(1(2!)))", "yes")
	// the atoms of a body ahead of the other goals, and what was found ahead of them
	grows(t, "t(X):-u(X),v(X).u(a).u(b).u(c).v(b).v(c).", "t(X),v(Y).", "(0(1()2(4(4!5!))3(5(4!5!))))", "X=b,Y=b", "X=b,Y=c", "X=c,Y=b", "X=c,Y=c")
	grows(t, "p(X):-q(X).p(c).q(a).q(b).", "p(X).", "(0(2!3!)1!)", "X=a", "X=b", "X=c")
	// a query without a variable tells yes as often as it is found
	grows(t, "a.a.", "a,a.", "(0(0!1!)1(0!1!))", "yes", "yes", "yes", "yes")
	// numbers of two digits
	grows(t, strings.Repeat("x.", 9)+"a:-b.b.b:-c.c.", "a.", "(9(10!11(12!)))", "yes", "yes")
	grows(t, strings.Repeat("a.", 24), "a.", "(0!1!2!3!4!5!6!7!8!9!10!11!12!13!14!15!16!17!18!19!20!21!22!23!)", slices.Repeat([]string{"yes"}, 24)...)
	// variables are called anew in each answer
	grows(t, "p(f(X,Y)).p(X):-q(X,Y).q(g(Z),U).q(U,U).", "p(B).", "(0!1(2!3!))", "B=f(A,B)", "B=g(A)", "B=A")
	// texts with blanks are the same texts
	grows(t, " a :- b .\n\nb . ", "\na , b .", "(0(1(1!)))", "yes")
}

func TestTreeOnlyAtTheEnd(t *testing.T) {
	x := begin(t, addition, two)
	for i, c := range []struct {
		n    int
		want string
	}{
		{0, ""}, {1, ""}, {-1, ""}, {api.MaxSteps + 1, ""}, {0, ""}, {1, ""}, {1, ""}, {2, ""}, {0, ""}, {0, ""}, {1, "(0!1(0!1(0!)))"}, {0, "(0!1(0!1(0!)))"}, {api.MaxSteps, "(0!1(0!1(0!)))"}, {-1, "(0!1(0!1(0!)))"},
	} {
		x.Step(c.n)
		if x.Tree() != c.want || x.Tree() != c.want {
			t.Errorf("behind %d Steps: %d, %q, want %q", i+1, x.Status(), x.Tree(), c.want)
		}
	}
	// no try is left, but the answer is still there
	x = begin(t, "a.", "a.")
	if x.Step(1); x.Status() != api.Answer || x.Tree() != "" {
		t.Errorf("%d, %q", x.Status(), x.Tree())
	}
	if x.Step(0); x.Status() != api.No || x.Tree() != "(0!)" {
		t.Errorf("%d, %q", x.Status(), x.Tree())
	}
	// no try is left ahead of the first Step either
	x = begin(t, "", "a.")
	if x.Step(-1); x.Status() != api.Seeks || x.Tree() != "" {
		t.Errorf("%d, %q", x.Status(), x.Tree())
	}
	if x.Step(0); x.Status() != api.No || x.Tree() != "()" {
		t.Errorf("%d, %q", x.Status(), x.Tree())
	}
	// a search that is full has no tree, even if the try that was too much was the last one
	for _, c := range [][2]string{{"a:-a.", "a."}, {"a.a:-a.", "a."}, {"p(X):-p(s(X)).", "p(z)."}, {"p(X,X,X,X).", "p(" + nested(7, "z") + ",X,Y,Z)."}} {
		x = begin(t, c[0], c[1])
		for x.Status() != api.Full {
			x.Step(api.MaxSteps)
			if x.Tree() != "" || x.Status() == api.No {
				t.Fatalf("%q: %d, %q", c[0], x.Status(), x.Tree())
			}
		}
		if x.Step(1); x.Status() != api.Full || x.Tree() != "" {
			t.Errorf("%q: %d, %q", c[0], x.Status(), x.Tree())
		}
	}
}

// The searches that need all tries, and those that would need more.
func TestTreesAtMaxTries(t *testing.T) {
	just := strings.Repeat("b.", 4) + strings.Repeat("d.", 10) + strings.Repeat("g.", 2) + strings.Repeat("e.", 8)
	want := allAtOnce(t, just, "b,d,g,c.")
	if want.made != api.MaxTries || want.status != api.No {
		t.Errorf("%d, %d", want.made, want.status)
	}
	more := strings.Repeat("b.", 4) + strings.Repeat("d.", 10) + strings.Repeat("g.", 3) + strings.Repeat("e.", 7)
	x := begin(t, more, "b,d,g,c.")
	if x.Step(api.MaxSteps); x.Status() != api.Full || x.Tree() != "" {
		t.Errorf("%d, %q", x.Status(), x.Tree())
	}
	// MaxTries are none of a tree's: All holds the rest of it too
	rest := growthOf(more, "b,d,g,c.", api.MaxTree)
	tells(t, more, "b,d,g,c.", rest.text(), nil)
	// the last try of all is an answer
	last := strings.Repeat("p(b).", 3) + strings.Repeat("p(d).", 4) + strings.Repeat("p(g).", 4) + strings.Repeat("e.", 12) + "p(X)."
	x, _ = untilTries(t, last, "p(b),p(d),p(g),p(c).")
	if x.Tree() != "" {
		t.Errorf("%q", x.Tree())
	}
	x.Step(0)
	tells(t, last, "p(b),p(d),p(g),p(c).", x.Tree(), slices.Repeat([]string{"yes"}, 100))
	if want := recordOf(last, "p(b),p(d),p(g),p(c).").shape; x.Tree() != want {
		t.Errorf("%q, want %q", x.Tree(), want)
	}
	// 14 answers at each of 14*14 nodes
	want = allAtOnce(t, strings.Repeat("p.", 14), "p,p,p.")
	if want.status != api.No || len(want.answers()) != 14*14*14 {
		t.Errorf("%d, %d answers", want.status, len(want.answers()))
	}
}

// text is the tree as far as it has been written; the number of a try that is too much is the last piece.
func (g *growth) text() string {
	text := ""
	for _, p := range g.pieces {
		text += p.text
	}
	return text
}

func TestFormsOfTrees(t *testing.T) {
	for _, c := range []struct {
		shown string
		place int
	}{
		// they end too early
		{"", 0}, {"(", 1}, {"(0", 2}, {"(10", 3}, {"(0!", 3}, {"(0(", 3}, {"(0()", 4}, {"(0!1", 4}, {"(0!1(0!1(0!))", 13}, {"(0!1(0!1(0!)", 12}, {"(0!1(0!1(0!", 11}, {"(0!1(0!1(0", 10},
		// they go on behind their end
		{"!!", 1}, {"!0", 1}, {"!(", 1}, {"!)", 1}, {"! ", 1}, {"!\n", 1}, {"()0", 2}, {"()!", 2}, {"()(", 2}, {"())", 2}, {"()()", 2}, {"(0!))", 4}, {"(0!1(0!1(0!)))x", 14}, {"(0!1(0!1(0!)))\n", 14}, {"(0!1(0!1(0!))))", 14}, {"(0!1(0!1(0!)))0!", 14},
		// what cannot stand there
		{")", 0}, {"0", 0}, {"0!", 0}, {" ", 0}, {" ()", 0}, {"x", 0}, {"\x00", 0}, {"\xff", 0}, {"٣", 0}, {"1.0", 0},
		{"(!)", 1}, {"(()", 1}, {"(())", 1}, {"( )", 1}, {"(x)", 1}, {"(-1!)", 1}, {"(+1!)", 1}, {"(\x00)", 1}, {"(/)", 1}, {"(:)", 1}, {"(٣!)", 1},
		{"(0)", 2}, {"(0 !)", 2}, {"(0x)", 2}, {"(0.1!)", 2}, {"(10)", 3}, {"(9)", 2}, {"(0!!)", 3}, {"(0! 1())", 3}, {"(0!,1())", 3}, {"(0!()", 3}, {"(0!1(0!1(0!) ))", 12}, {"(0(!))", 3},
		// digits
		{"(00!)", 2}, {"(01!)", 2}, {"(09!)", 2}, {"(010!)", 2}, {"(100!)", 3}, {"(999!)", 3}, {"(230!)", 3}, {"(1000!)", 3}, {"(0!01!)", 4}, {"(0!100!)", 5}, {"(00", 2}, {"(100", 3}, {"(0(00!))", 4},
		// the form is asked for ahead of what a tree says, wherever that is wrong
		{"(99!98!", 7}, {"(1!0!7()", 8}, {"(0()", 4}, {"!x", 1},
		{strings.Repeat("(0", 10000), 20000}, {strings.Repeat("(", 20000), 1}, {strings.Repeat("0", 20000), 0}, {strings.Repeat("!", 20000), 1}, {strings.Repeat("x", 20000), 0}, {strings.Repeat(")", 20000), 0},
	} {
		failsAs(t, addition, two, c.shown, api.ErrForm, c.place)
		if len(c.shown) < 100 {
			judgeTree(t, addition, two, c.shown)
		}
	}
	// each byte, at each place where something else can stand
	for b := range 256 {
		for _, ahead := range []string{"", "!", "(", "(0", "(1", "(10", "(0!", "(0!1", "(0!1(", "(0!1(0!1(0!", "(0!1(0!1(0!)", "(0!1(0!1(0!)))", "()"} {
			judgeTree(t, addition, two, ahead+string([]byte{byte(b)}))
		}
	}
}

// bushy has a tree of 20000 bytes and 6668 answers. With another clause ahead
// of its t's, one more of their numbers has two digits.
func bushy(other string) string {
	text := "a.a.a.a." + other
	for _, n := range []int{6, 5, 5, 4, 4, 1, 1, 1} {
		text += "t:-" + repeated("a", n, ",") + "."
	}
	return text
}

func TestLongTrees(t *testing.T) {
	longest := growthOf(bushy(""), "t.", 1<<20).text()
	if len(longest) != api.MaxTree {
		t.Fatalf("%d bytes", len(longest))
	}
	tells(t, bushy(""), "t.", longest, slices.Repeat([]string{"yes"}, 6668))
	// the last byte that there can be
	failsAs(t, bushy("")+"t.", "t.", longest, api.ErrWrong, 19999)
	failsAs(t, bushy(""), "t.", longest[:19999], api.ErrForm, 19999)
	failsAs(t, bushy(""), "t.", longest[:19999]+"x", api.ErrForm, 19999)
	failsAs(t, bushy(""), "t.", longest[:19999]+"!", api.ErrForm, 19999)
	failsAs(t, bushy(""), "t.", longest[:19997]+")))", api.ErrForm, 19997)
	failsAs(t, bushy(""), "t.", longest+")", api.ErrLong, 0)
	// one byte more, of a tree that would hold
	tooLong := growthOf(bushy("x."), "t.", 1<<20).text()
	if len(tooLong) != api.MaxTree+1 {
		t.Fatalf("%d bytes", len(tooLong))
	}
	failsAs(t, bushy("x."), "t.", tooLong, api.ErrLong, 0)
	for _, s := range []string{strings.Repeat("(0", 10000) + "!", strings.Repeat("x", 20001), strings.Repeat("!", 20001), strings.Repeat("(", 1<<22), strings.Repeat("(0", 1<<22) + "!" + strings.Repeat(")", 1<<22), strings.Repeat("\x00", 1<<24)} {
		failsAs(t, addition, two, s, api.ErrLong, 0)
	}
}

// deep has n brackets open at once.
func deep(number string, n int, within string) string {
	return strings.Repeat("("+number, n) + within + strings.Repeat(")", n)
}

func TestDeepTrees(t *testing.T) {
	for _, c := range []struct {
		shown string
		place int
	}{
		{deep("0", 6666, "!"), 201}, {deep("0", 6666, "()"), 201}, {deep("1", 6666, "!"), 1}, {deep("0", 101, "()"), 201}, {deep("0", 100, "()"), 201}, {deep("0", 100, "!"), 200}, {deep("0", 99, "()"), 199}, {"(0!" + deep("0", 6665, "!")[1:], 2},
	} {
		if len(c.shown) > api.MaxTree {
			t.Fatalf("%d bytes", len(c.shown))
		}
		failsAs(t, "a:-a.", "a.", c.shown, api.ErrWrong, c.place)
	}
	failsAs(t, "a:-a.", "a.", deep("0", 6666, "!")[:19998], api.ErrForm, 19998)
	failsAs(t, "a:-a.", "a.", deep("0", 6666, "!")+")", api.ErrForm, 19999)
	failsAs(t, "a:-a.", "a.", deep("10", 5000, ""), api.ErrForm, 15000)
	failsAs(t, "b.", "a.", deep("0", 6666, "!"), api.ErrWrong, 1)
	failsAs(t, "", "a.", deep("10", 4999, "!"), api.ErrWrong, 1)
	// as deep as one can be that holds
	deepest := counting + "t:-n(" + nested(24, "z") + "),n(" + nested(24, "z") + "),n(" + nested(24, "z") + "),n(" + nested(23, "z") + ")."
	x, answers := atEnd(t, deepest, "t.")
	if strings.Count(x.Tree(), "(") != api.MaxBranch || !slices.Equal(answers, []string{"yes"}) {
		t.Errorf("%q, %q", x.Tree(), answers)
	}
	tells(t, deepest, "t.", x.Tree(), answers)
	// and with a node at its end that has goals, which nothing fits
	open := counting + "t:-n(" + nested(24, "z") + "),n(" + nested(24, "z") + "),n(" + nested(24, "z") + "),n(" + nested(24, "y") + ")."
	x, answers = atEnd(t, open, "t.")
	if strings.Count(x.Tree(), "(") != api.MaxBranch+1 || len(answers) != 0 {
		t.Errorf("%q, %q", x.Tree(), answers)
	}
	tells(t, open, "t.", x.Tree(), nil)
}

func TestRefusedTextsOfTrees(t *testing.T) {
	long := strings.Repeat("a.", 1<<20)
	trees := []string{"(0!)", "()", "!", "", "x", "(0", "(0(0!))", strings.Repeat("x", 20001), long}
	for _, program := range []string{"a", "X.", "abcdefghi.", "a:-.", "\xff", spaced("a.", 801), long} {
		for _, query := range []string{"a.", "a", "", "\x00", long} {
			for _, shown := range trees {
				failsAs(t, program, query, shown, api.ErrProgram, 0)
			}
		}
	}
	for _, program := range []string{"", "a.", spaced("a.", 800)} {
		for _, query := range []string{"a", "", "a.a.", "X.", "abcdefghi.", "\x00", spaced("a.", 121), long} {
			for _, shown := range trees {
				failsAs(t, program, query, shown, api.ErrQuery, 0)
			}
		}
	}
	tells(t, spaced("a.", 800), spaced("a.", 120), "(0!)", []string{"yes"})
}

func TestWrongTrees(t *testing.T) {
	const program = "p(X):-q(X),r(X).q(a).q(b).r(b).q(c):-s."
	tells(t, program, "p(X).", "(0(1()2(3!)4()))", []string{"X=b"})
	twelve := strings.Repeat("x.", 11) + "a.a:-b."
	tells(t, twelve, "a.", "(11!12())", []string{"yes"})
	for _, c := range []struct {
		program, query, shown string
		place                 int
	}{
		// `!` for a node that has goals
		{program, "p(X).", "!", 0}, {program, "p(X).", "(0!)", 2}, {program, "p(X).", "(0(1!2(3!)4()))", 4}, {program, "p(X).", "(0(1()2(3!)4!))", 12}, {"", "a.", "!", 0}, {"b.", "a.", "!", 0}, {"a.", "a.", "!", 0},
		// `(` for one that has none
		{program, "p(X).", "(0(1()2(3())4()))", 9}, {"a.", "a.", "(0())", 2}, {"a.", "a.", "(0(0!))", 2}, {"a.a.", "a.", "(0!1())", 4}, {twelve, "a.", "(11()12())", 3},
		// another number than that of the next clause that fits
		{program, "p(X).", "(1(1()2(3!)4()))", 1}, {program, "p(X).", "(0(2()2(3!)4()))", 3}, {program, "p(X).", "(0(1()2(2!)4()))", 8}, {twelve, "a.", "(1!12())", 1}, {twelve, "a.", "(11!1())", 4}, {twelve, "a.", "(11!2())", 4}, {twelve, "a.", "(11!99())", 4}, {twelve, "a.", "(12!12())", 1}, {twelve, "a.", "(21!12())", 1},
		// a clause left out: the first, one between, the last
		{program, "p(X).", "(0(2(3!)4()))", 3}, {program, "p(X).", "(0(1()4()))", 6}, {program, "p(X).", "(0(1()2(3!)))", 11}, {twelve, "a.", "(12())", 1}, {twelve, "a.", "(11!)", 4},
		// one too many: told twice, one that does not fit, one that is not there
		{program, "p(X).", "(0(1()1()2(3!)4()))", 6}, {program, "p(X).", "(0(1()2(3!3!)4()))", 10}, {program, "p(X).", "(0(1()2(3!)3!4()))", 11}, {program, "p(X).", "(0(1()2(3!)4())1!)", 15}, {program, "p(X).", "(0(1()2(3!)4())5())", 15}, {program, "p(X).", "(0(1()2(3!)4(0!)))", 13}, {"a.", "a.", "(0!1!)", 3}, {"", "a.", "(0!)", 1}, {"", "a.", "(99())", 1}, {"b.", "a.", "(0!)", 1}, {strings.Repeat("a.", 24), "b.", "(23!)", 1}, {"a.", "a.", "(0!10!)", 3},
		// the order is that of the program
		{"a.a.", "a.", "(1!0!)", 1}, {twelve, "a.", "(12()11!)", 1},
		// a `)` too early
		{program, "p(X).", "()", 1}, {program, "p(X).", "(0())", 3}, {program, "p(X).", "(0(1()2()4()))", 8}, {program, "p(X).", "(0(1()))", 6},
		// a clause whose head would stand in itself does not fit
		{"eq(A,A).", "eq(X,f(X)).", "(0!)", 1}, {"eq(A,A).eq(A,B).", "eq(X,f(X)).", "(0!1!)", 1},
		// the first that is wrong is told
		{program, "p(X).", "(0(1!2!4!))", 4}, {program, "p(X).", "(0(1()2(3())))", 9}, {program, "p(X).", "(99!98!)", 1},
	} {
		failsAs(t, c.program, c.query, c.shown, api.ErrWrong, c.place)
		judgeTree(t, c.program, c.query, c.shown)
	}
}

// Each bound is met by a tree that goes on, and passed by one more: then its
// number is wrong, and so is all else that may stand there.
func TestTreesThatAreTooMuch(t *testing.T) {
	large := nested(13, "z")
	sixes := "a:-a,a,a,a,a,a."
	for _, c := range []struct {
		program, met, passed string
		ahead                string // what holds, up to the number in question
		number               string
		why                  string
	}{
		{"p(X,Y):-q(X,X,Y).", "p(" + large + ",z).", "p(" + large + ",s(z)).", "(", "0", bySize},
		{"p(" + large + ").r.", "p(X),q(X,X,z).", "p(X),q(X,X,s(z)).", "(", "0", bySize},
		{"r.p(" + large + ").", "r,p(X),s,q(X,X,z).", "r,p(X),s,q(X,X,s(z)).", "(0(", "1", bySize},
		{"p(" + large + ",X,Y).", "p(X,X,z).", "p(X,X,s(z)).", "(", "0", byReplaced},
		{"p(a,a,a).p(" + large + ",X,Y).", "p(X,X,z).", "p(X,X,s(z)).", "(", "1", byReplaced},
		{"p(X,Y,Z):-q(X).q(a).q(" + large + ").", "p(X,X,z).", "p(X,X,s(z)).", "(0(1!", "2", byReplaced},
		{"p(X,Y,Z).r.q(" + large + ").", "p(X,X,z),r,q(X).", "p(X,X,s(z)),r,q(X).", "(0(1(", "2", byReplaced},
		{"n0:-n1,b,b,b,b,b.n1:-n2,b,b,b,b,b.n2:-n3,b,b,b,b,b.n3:-n4,b,b,b,b,b.n4:-n5,b,b,b,b,b.n5:-n6,b,b,b,b,b.n6:-b,b,b,b,b,b.", "n0,b,b,b,b.", "n0,b,b,b,b,b.", "(0(1(2(3(4(5(", "6", byGoals},
		{sixes, "a.", "a.", strings.Repeat("(0", 7) + "(", "0", byGoals},
		{"a:-a.", "a.", "a.", strings.Repeat("(0", 100) + "(", "0", byBranch},
		{"b.a:-a.a.", "a.", "a.", strings.Repeat("(1", 100) + "(", "1", byBranch},
	} {
		if c.met != c.passed {
			if why := judgeTree(t, c.program, c.met, growthOf(c.program, c.met, api.MaxTree).text()); why != "" {
				t.Errorf("%q, %q: %s", c.program, c.met, why)
			}
		}
		ends := strings.Repeat(")", strings.Count(c.ahead, "(")-strings.Count(c.ahead, ")"))
		for _, s := range []struct{ piece, why string }{
			{c.number + "!", tooMuchNumber + ": " + c.why}, {c.number + "()", tooMuchNumber + ": " + c.why}, {"", closesEarly}, {"23!", otherNumber},
		} {
			failsAs(t, c.program, c.passed, c.ahead+s.piece+ends, api.ErrWrong, len(c.ahead))
			if why := judgeTree(t, c.program, c.passed, c.ahead+s.piece+ends); why != s.why {
				t.Errorf("%q, %q, %q: %s, want %s", c.program, c.passed, c.ahead+s.piece+ends, why, s.why)
			}
		}
	}
	// a clause behind it that fits and is not too much, in its place
	failsAs(t, "a:-a,a,a,a,a,a.a:-a,a,a,a,a.", "a.", deep("0", 7, "(1()")+")", api.ErrWrong, 15)
	// terms that are vast, but fit; and those that do not
	failsAs(t, "t(g(f(A,A,A),A,f(B,B,B),g(B,f(C,C,C),C))).", "t(g(H,f(I,I,I),I,g(f(J,J,J),J,f(K,K,K)))).", "(0!)", api.ErrWrong, 1)
	failsAs(t, "t(g(f(A,A,A),A,f(B,B,B),g(B,f(C,C,C),C))).", "t(g(H,f(I,I,I),I,g(f(J,J,J),J,f(K,K,K)))).", "()", api.ErrWrong, 1)
	tells(t, "t(g(f(A,A,A),A,f(B,B,B),g(B,f(C,C,C),a))).", "t(g(H,f(I,I,I),I,g(f(J,J,J),J,f(b)))).", "()", nil)
}

// Whatever a caller does with a list, no other list and no search is changed.
func TestListsAreTheCallers(t *testing.T) {
	const tree = "(0!1(0!1(0!)))"
	want := []string{"X=z,Y=s(s(z))", "X=s(z),Y=s(z)", "X=s(s(z)),Y=z"}
	x, _ := atEnd(t, addition, two)
	y := begin(t, addition, two)
	y.Step(1)
	y.Step(2)
	first, _, _ := warrant.All(addition, two, tree)
	second, _, _ := warrant.All(addition, two, tree)
	other, _, _ := warrant.All("p(a).p(b).", "p(X).", "(0!1!)")
	spoil := func(list []string) {
		list = list[:cap(list)]
		for i := range list {
			list[i] = "spoilt"
		}
		for range 10 {
			list = append(list, "more")
		}
	}
	unspoilt := func() {
		t.Helper()
		tells(t, addition, two, tree, want)
		tells(t, "p(a).p(b).", "p(X).", "(0!1!)", []string{"X=a", "X=b"})
		tells(t, "", "a.", "()", nil)
		if x.Tree() != tree || y.Answer() != want[1] || y.Status() != api.Answer {
			t.Errorf("%q, %d, %q", x.Tree(), y.Status(), y.Answer())
		}
	}
	spoil(first)
	if !slices.Equal(second, want) || !slices.Equal(other, []string{"X=a", "X=b"}) {
		t.Errorf("%q, %q", second, other)
	}
	unspoilt()
	grown := append(second[:1], "mine")
	third, _, _ := warrant.All(addition, two, tree)
	if !slices.Equal(grown, []string{want[0], "mine"}) || !slices.Equal(third, want) || !slices.Equal(other, []string{"X=a", "X=b"}) {
		t.Errorf("%q, %q, %q", grown, third, other)
	}
	spoil(third)
	spoil(grown)
	none, _, _ := warrant.All("", "a.", "()")
	spoil(none)
	refused, _, _ := warrant.All(addition, two, "(0!)")
	spoil(refused)
	if !slices.Equal(other, []string{"X=a", "X=b"}) {
		t.Errorf("%q", other)
	}
	unspoilt()
	if y.Step(api.MaxSteps); y.Answer() != want[2] {
		t.Errorf("%q", y.Answer())
	}
}

// What All tells hangs on nothing that was asked ahead, and changes no search.
func TestTreesSideBySide(t *testing.T) {
	x := begin(t, addition, two)
	want := &replay{record: recordOf(addition, two)}
	for range 8 {
		for _, shown := range []string{"(0!1(0!1(0!)))", "(0!1(0!1()))", "(0!1!)", "!", "()", "", "x", x.Tree()} {
			judgeTree(t, addition, two, shown)
			judgeTree(t, addition, "plus(X,Y,Z).", shown)
			judgeTree(t, "p(X):-q(X).p(a).q(b).q(c).", "p(X).", shown)
			same(t, x, want, addition, two)
		}
		x.Step(1)
		want.step(1)
		same(t, x, want, addition, two)
	}
}

// changedTree makes another text of a tree: one that is still a tree, most often.
func (w *guesser) changedTree(shown string) string {
	places := pieceForm.FindAllStringIndex(shown, -1)
	if len(places) == 0 {
		return "()"
	}
	from := places[w.Intn(len(places))]
	ahead, text, behind := shown[:from[0]], shown[from[0]:from[1]], shown[from[1]:]
	if w.Intn(6) == 0 {
		return ahead + []string{"0", "1", "(", ")", "!", "", "00", " "}[w.Intn(8)] + behind
	}
	child := fmt.Sprint(w.Intn(12), []string{"!", "()", "(0!)"}[w.Intn(3)])
	switch text {
	case "!":
		return ahead + "()" + behind
	case "(":
		if w.Intn(2) == 0 {
			return ahead + "!" + shown[endOfTree(shown, from[0]):]
		}
		return ahead + "(" + child + behind
	case ")":
		return ahead + child + ")" + behind
	}
	end := endOfTree(shown, from[1])
	switch w.Intn(3) {
	case 0:
		return ahead + shown[end:]
	case 1:
		return shown[:end] + shown[from[0]:]
	}
	return ahead + fmt.Sprint(w.Intn(12)) + behind
}

// endOfTree is the place behind the tree that begins somewhere; the end of the text, if none does.
func endOfTree(shown string, from int) int {
	open := 0
	for at := from; at < len(shown); at++ {
		open += strings.Count(shown[at:at+1], "(") - strings.Count(shown[at:at+1], ")")
		if open <= 0 {
			return at + 1
		}
	}
	return len(shown)
}

// closed makes a tree of what could be written of one.
func (g *growth) closed() string {
	text := g.text()
	if isWholeTree(text) {
		return text
	}
	ends := strings.Repeat(")", strings.Count(text, "(")-strings.Count(text, ")"))
	if isWholeTree(text + ends) {
		return text + ends
	}
	return text + "!" + ends
}

func TestRandomTrees(t *testing.T) {
	w := &guesser{Rand: rand.New(rand.NewSource(11))}
	met := map[string]int{}
	for i := range 1500 {
		program, query := w.texts()
		most := 1 + w.Intn(120)
		if i%10 == 0 {
			most = 600
		}
		shown := growthOf(program, query, most).closed()
		met[judgeTree(t, program, query, shown)]++
		for range 6 {
			changed := w.changedTree(shown)
			met[judgeTree(t, program, query, changed)]++
			if w.Intn(3) == 0 {
				shown = changed
			}
		}
	}
	for _, kind := range []string{"", badForm, endsForGoals, opensForNone, closesEarly, otherNumber, oneTooMany, tooMuchNumber + ": " + byGoals, tooMuchNumber + ": " + byBranch, tooMuchNumber + ": " + bySize, tooMuchNumber + ": " + byReplaced} {
		if met[kind] < 5 {
			t.Errorf("the random trees come to %q only %d times", kind, met[kind])
		}
	}
}

// FuzzTrees asks for all texts, those that are refused too.
func FuzzTrees(f *testing.F) {
	f.Add(addition, two, "(0!1(0!1(0!)))")
	f.Add(addition, two, "(0!1(0!1()))")
	f.Add(strings.Repeat("x.", 11)+"a.a:-b.", "a.", "(11!12())")
	f.Add("a:-a,a,a.a.", "a,a.", "(0(0(0(0()1!)1!)1!)1(1!))")
	f.Add("p(X):-p(s(X)).p(X).", "p(z).", deep("0", 28, "()"))
	f.Add("d(X,f(X,X)).", "d(A,B),d(B,C),d(C,D),d(D,E).", "(0(0(0())))")
	f.Add("", "a.", "()")
	f.Add("a", "a", "a")
	f.Fuzz(func(t *testing.T, program string, query string, shown string) {
		if len(shown) > 600 {
			shown = shown[:600] // the tests' own check of the form is slow
		}
		judgeTree(t, program, query, shown)
	})
}
