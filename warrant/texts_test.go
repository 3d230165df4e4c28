package warrant_test

import (
	"strings"
	"testing"

	"warrant/api"
	"warrant/warrant"
)

// textCase is a text and what Program or Query must answer.
type textCase struct {
	s    string
	want string
	err  api.Errno
	at   int
}

func good(s string, want string) textCase { return textCase{s: s, want: want} }

func bad(s string, err api.Errno, at int) textCase { return textCase{s: s, err: err, at: at} }

func checkProgram(t *testing.T, cases []textCase) {
	t.Helper()
	for _, c := range cases {
		if s, err, at := warrant.Program(c.s); s != c.want || err != c.err || at != c.at {
			t.Errorf("Program(%.90q) = %q, %d, %d, want %q, %d, %d", c.s, s, err, at, c.want, c.err, c.at)
		}
	}
}

func checkQuery(t *testing.T, cases []textCase) {
	t.Helper()
	for _, c := range cases {
		if s, err, at := warrant.Query(c.s); s != c.want || err != c.err || at != c.at {
			t.Errorf("Query(%.90q) = %q, %d, %d, want %q, %d, %d", c.s, s, err, at, c.want, c.err, c.at)
		}
	}
}

// nested is a term with n names s around another one.
func nested(n int, inner string) string {
	return strings.Repeat("s(", n) + inner + strings.Repeat(")", n)
}

// spaced fills a text with blanks up to n bytes.
func spaced(s string, n int) string { return s + strings.Repeat(" ", n-len(s)) }

func TestExamplesOfTheDocument(t *testing.T) {
	checkProgram(t, []textCase{
		good("plus(z,X,X). plus(s(X),Y,s(Z)):-plus(X,Y,Z).", "plus(z,A,A).\nplus(s(A),B,s(C)) :- plus(A,B,C).\n"),
		good("", ""),
		bad("p(X.", api.ErrText, 3),
		bad("p(X)", api.ErrText, 4),
		bad("p:q.", api.ErrText, 1),
		bad("X.", api.ErrText, 0),
		bad("p(X) q.", api.ErrText, 5),
		bad("abcdefghi.", api.ErrSize, 0),
		bad("p(a,b,c,d,e).", api.ErrSize, 10),
		bad("p() .", api.ErrText, 2),
	})
	checkQuery(t, []textCase{
		good("p( X,Y ) , q(Y,X).", "p(A,B), q(B,A)."),
		bad("p. q.", api.ErrText, 3),
		bad("", api.ErrText, 0),
		bad("a,b,c,d,e,f,g.", api.ErrSize, 12),
	})
}

func TestLength(t *testing.T) {
	checkProgram(t, []textCase{
		good(spaced("a.", 800), "a.\n"),
		bad(spaced("a.", 801), api.ErrLong, 0),
		bad(spaced("", 801), api.ErrLong, 0),
		good(spaced("", 800), ""),
		bad(spaced("a", 800), api.ErrText, 800),
		bad(spaced("?", 800), api.ErrText, 0),
		bad(spaced("?", 801), api.ErrLong, 0),
		bad(strings.Repeat("a", 800), api.ErrSize, 0),
		bad(strings.Repeat("a", 801), api.ErrLong, 0),
		bad(strings.Repeat("p(", 1<<20), api.ErrLong, 0),
	})
	checkQuery(t, []textCase{
		good(spaced("a.", 120), "a."),
		bad(spaced("a.", 121), api.ErrLong, 0),
		bad(spaced("", 120), api.ErrText, 120),
		bad(spaced("", 121), api.ErrLong, 0),
		bad(spaced("?", 120), api.ErrText, 0),
		bad(spaced("?", 121), api.ErrLong, 0),
		bad(strings.Repeat("a", 120), api.ErrSize, 0),
		bad(strings.Repeat("a", 121), api.ErrLong, 0),
		bad(strings.Repeat("p(", 1<<20), api.ErrLong, 0),
	})
}

func TestLengthOfNamesAndVariables(t *testing.T) {
	checkProgram(t, []textCase{
		good("abcdefgh(Abcdefgh,aBCDE678):-bcdefghi(Abcdefgh).", "abcdefgh(A,aBCDE678) :- bcdefghi(A).\n"),
		bad("abcdefghi", api.ErrSize, 0),
		bad(" a. abcdefghi:-b.", api.ErrSize, 4),
		bad("p(abcdefghi).", api.ErrSize, 2),
		bad("p(a,Abcdefghi).", api.ErrSize, 4),
		bad("a:-b,cdefghijk.", api.ErrSize, 5),
		bad("Abcdefghi.", api.ErrText, 0),
		bad("a bcdefghij.", api.ErrText, 2),
		bad("a:-Abcdefghi.", api.ErrText, 3),
	})
	checkQuery(t, []textCase{
		good("abcdefgh(Abcdefgh).", "abcdefgh(A)."),
		bad("abcdefghi.", api.ErrSize, 0),
		bad("p(Abcdefghi).", api.ErrSize, 2),
		bad("a,Abcdefghi.", api.ErrText, 2),
		bad("a. bcdefghij", api.ErrText, 3),
	})
}

func TestArguments(t *testing.T) {
	checkProgram(t, []textCase{
		good("p(f(a,b,c,d),b,c,f(a,b,c,D)):-p(a,b,c,d).", "p(f(a,b,c,d),b,c,f(a,b,c,A)) :- p(a,b,c,d).\n"),
		bad("p(a,b,c,d,E).", api.ErrSize, 10),
		bad("p(a,b,c,d, f(x)).", api.ErrSize, 11),
		bad("p(f(a,b,c,d,e)).", api.ErrSize, 12),
		bad("p(a,b,c,f(a,b,c,d),e).", api.ErrSize, 19),
		bad("a:-p(a,b,c,d,e).", api.ErrSize, 13),
		bad("p(a,b,c,d,", api.ErrText, 10),
		bad("p(a,b,c,d,).", api.ErrText, 10),
		bad("p(a,b,c,d,?", api.ErrText, 10),
	})
	checkQuery(t, []textCase{
		good("p(a,b,c,d),p(a,b,c,d).", "p(a,b,c,d), p(a,b,c,d)."),
		bad("p(a,b,c,d),p(a,b,c,d,e).", api.ErrSize, 21),
	})
}

func TestSize(t *testing.T) {
	deep := "p(" + nested(28, "X") + ")"
	written := "p(" + nested(28, "A") + ")"
	tooDeep := "p(" + nested(29, "X") + ")"
	checkProgram(t, []textCase{
		good(deep+":-"+deep+","+deep+".", written+" :- "+written+", "+written+".\n"),
		bad(tooDeep+".", api.ErrSize, 60),
		bad("a:-"+tooDeep+".", api.ErrSize, 63),
		bad("a:-b,"+tooDeep+".", api.ErrSize, 65),
		bad("p("+nested(29, "x"), api.ErrSize, 60),
		bad("p("+nested(29, ")"), api.ErrText, 60),
		bad("p("+nested(29, ""), api.ErrText, 60),
	})
	checkQuery(t, []textCase{
		good(deep+".", written+"."),
		bad(tooDeep+".", api.ErrSize, 60),
		bad(strings.Repeat("p(", 60), api.ErrSize, 60),
	})
}

func TestSizeOfAnAtomOfManyArguments(t *testing.T) {
	f := "f(a,b,c)"
	start := "p(g(" + f + "," + f + "," + f + "," + f + "),g(" + f + "," + f + ")," // 27 names
	checkProgram(t, []textCase{
		good(start+"a,b).", start+"a,b).\n"),
		good(start+"a,s(b)).", start+"a,s(b)).\n"),
		good(start+"a,s(b)):-"+start+"a,s(b)).", start+"a,s(b)) :- "+start+"a,s(b)).\n"),
		bad(start+"a,s(b,c)).", api.ErrSize, len(start+"a,s(b,")),
		bad(start+"a,s(b,C)).", api.ErrSize, len(start+"a,s(b,")),
		bad(start+"f(a,b,c)).", api.ErrSize, len(start+"f(a,b,")),
		bad(start+"f(a,b)):-"+start+"f(a,b,c)).", api.ErrSize, len(start+"f(a,b)):-"+start+"f(a,b,")),
	})
}

func TestBody(t *testing.T) {
	checkProgram(t, []textCase{
		good("a:-b,c,d,e,f,g.a:-b,c,d,e,f,g.", "a :- b, c, d, e, f, g.\na :- b, c, d, e, f, g.\n"),
		bad("a:-b,c,d,e,f,g,h.", api.ErrSize, 15),
		bad("a.a:-b,c,d,e,f,g,h(x).", api.ErrSize, 17),
		bad("a:-b,c,d,e,f,g,H.", api.ErrText, 15),
		bad("a:-b,c,d,e,f,g,", api.ErrText, 15),
		bad("a:-b,c,d,e,f,g,.", api.ErrText, 15),
	})
	checkQuery(t, []textCase{
		good("a,b,c,d,e,f.", "a, b, c, d, e, f."),
		bad("a,b,c,d,e,f, g.", api.ErrSize, 13),
		bad("a,b,c,d,e,f,G.", api.ErrText, 12),
		bad("a,b,c,d,e,f,", api.ErrText, 12),
		bad("a,b,c,d,e,f,.", api.ErrText, 12),
	})
}

func TestClauses(t *testing.T) {
	full := strings.Repeat("a:-b.", 24)
	checkProgram(t, []textCase{
		good(full, strings.Repeat("a :- b.\n", 24)),
		good(full+" \n", strings.Repeat("a :- b.\n", 24)),
		bad(full+"c.", api.ErrSize, 120),
		bad(full+"\nc", api.ErrSize, 121),
		bad(full+"C.", api.ErrText, 120),
		bad(full+".", api.ErrText, 120),
		bad(full+":", api.ErrText, 120),
	})
}

func TestTextThatEndsTooEarly(t *testing.T) {
	checkProgram(t, []textCase{
		bad("a", api.ErrText, 1),
		bad("abc", api.ErrText, 3),
		bad("a.b", api.ErrText, 3),
		bad("a.b \n ", api.ErrText, 6),
		bad("p(", api.ErrText, 2),
		bad("p(X", api.ErrText, 3),
		bad("p(X,", api.ErrText, 4),
		bad("p(f(X)", api.ErrText, 6),
		bad("a:-", api.ErrText, 3),
		bad("a:-b", api.ErrText, 4),
		bad("a:-b,", api.ErrText, 5),
		bad("a:", api.ErrText, 1),
		bad("a :", api.ErrText, 2),
		bad("abcdefghi", api.ErrSize, 0),
		bad("p(abcdefghi", api.ErrSize, 2),
	})
	checkQuery(t, []textCase{
		bad("a", api.ErrText, 1),
		bad(" a ", api.ErrText, 3),
		bad("a,", api.ErrText, 2),
		bad("a,p(", api.ErrText, 4),
		bad("a,p(X", api.ErrText, 5),
		bad("a:", api.ErrText, 1),
		bad(" \n", api.ErrText, 2),
	})
}

func TestTokensThatCannotStand(t *testing.T) {
	checkProgram(t, []textCase{
		bad("a::-b.", api.ErrText, 1),
		bad("a: -b.", api.ErrText, 1),
		bad("a:\n-b.", api.ErrText, 1),
		bad("a-b.", api.ErrText, 1),
		bad("a:-:-b.", api.ErrText, 3),
		bad("a:-b:-c.", api.ErrText, 4),
		bad("a,b.", api.ErrText, 1),
		bad("p(a)(b).", api.ErrText, 4),
		bad("p(X(a)).", api.ErrText, 3),
		bad("p((a)).", api.ErrText, 2),
		bad("p(a b).", api.ErrText, 4),
		bad("p(a)).", api.ErrText, 4),
		bad("p,q:-r.", api.ErrText, 1),
		bad("a:-X.", api.ErrText, 3),
		bad("(a).", api.ErrText, 0),
		bad("1.", api.ErrText, 0),
		bad("a.9", api.ErrText, 2),
		bad("a\t.", api.ErrText, 1),
		bad("a\r\n.", api.ErrText, 1),
		bad("a\x00.", api.ErrText, 1),
		bad("a\x80.", api.ErrText, 1),
		bad("p(\u00c9).", api.ErrText, 2),
		bad(":-a.", api.ErrText, 0),
	})
	checkQuery(t, []textCase{
		bad("a:-b.", api.ErrText, 1),
		bad(":-a.", api.ErrText, 0),
		bad("a..", api.ErrText, 2),
		bad("a. ?", api.ErrText, 3),
		bad("a.X", api.ErrText, 2),
		bad("a.,b.", api.ErrText, 2),
		bad("a b.", api.ErrText, 2),
		bad("?.", api.ErrText, 0),
	})
}

func TestTheFirstTokenIsTold(t *testing.T) {
	checkProgram(t, []textCase{
		bad("abcdefghi ?", api.ErrSize, 0),
		bad("? abcdefghi", api.ErrText, 0),
		bad("p(a,b,c,d,e,?", api.ErrSize, 10),
		bad("p(?,b,c,d,e).", api.ErrText, 2),
		bad("p(Abcdefghi.", api.ErrSize, 2),
		bad("a. b c. abcdefghi.", api.ErrText, 5),
	})
}

func TestBlanks(t *testing.T) {
	checkProgram(t, []textCase{
		good("\n p \n(\n f ( a ,X ) , X )\n:- q ( X ) ,\n\n r . \n s . ", "p(f(a,A),A) :- q(A), r.\ns.\n"),
		good("p(f(a,X),X):-q(X),r.s.", "p(f(a,A),A) :- q(A), r.\ns.\n"),
		good(" ", ""),
		good("\n", ""),
	})
	checkQuery(t, []textCase{
		good("\n p ( X , f ( Y ) )\n, q . \n", "p(A,f(B)), q."),
		good("p(X,f(Y)),q.", "p(A,f(B)), q."),
	})
}

func TestVariablesAreCalledInTheirOrder(t *testing.T) {
	checkProgram(t, []textCase{
		good("p(B,A,B). p(A,B).", "p(A,B,A).\np(A,B).\n"),
		good("p:-q(Z),r(Y,Z),s(X,Y).", "p :- q(A), r(B,A), s(C,B).\n"),
		good("p(X,X1,X11,Xx):-q(Xx,X11,X1,X).", "p(A,B,C,D) :- q(D,C,B,A).\n"),
		good("p(f(Y),X):-q(X,Y).", "p(f(A),B) :- q(B,A).\n"),
	})
	checkQuery(t, []textCase{
		good("p(Q),p(P),p(Q).", "p(A), p(B), p(A)."),
		good("p(B,f(A)),q(A,B,C).", "p(A,f(B)), q(B,A,C)."),
	})
}

func TestMoreVariablesThanLetters(t *testing.T) {
	four := func(letter string) string {
		return "f(" + letter + "0," + letter + "1," + letter + "2," + letter + "3)"
	}
	s := "p(" + four("A") + "," + four("B") + "," + four("C") + "," + four("D") + "):-q(" +
		four("E") + "," + four("F") + "," + four("G") + "," + four("H") + "),r(" +
		four("I") + "," + four("J") + "," + four("K") + "," + four("L") + "),t(" + four("M") + "," + four("N") + ",A0,N3)."
	checkProgram(t, []textCase{good(s, "p(f(A,B,C,D),f(E,F,G,H),f(I,J,K,L),f(M,N,O,P)) :- "+
		"q(f(Q,R,S,T),f(U,V,W,X),f(Y,Z,A1,B1),f(C1,D1,E1,F1)), "+
		"r(f(G1,H1,I1,J1),f(K1,L1,M1,N1),f(O1,P1,Q1,R1),f(S1,T1,U1,V1)), "+
		"t(f(W1,X1,Y1,Z1),f(A2,B2,C2,D2),A,D2).\n")})
}

func TestAnswersHangOnTheArgumentsAlone(t *testing.T) {
	texts := []string{"", "p(Y,X):-q(X,Y).", "p(X", "abcdefghi.", "p(A),q(B).", "q(B,A).", strings.Repeat("a.", 25), spaced("a.", 801)}
	type answer struct {
		s   string
		err api.Errno
		at  int
	}
	ask := func(s string) (answer, answer) {
		var p, q answer
		p.s, p.err, p.at = warrant.Program(s)
		q.s, q.err, q.at = warrant.Query(s)
		return p, q
	}
	for _, s := range texts {
		p, q := ask(s)
		for _, other := range texts {
			ask(other)
			if p2, q2 := ask(s); p2 != p || q2 != q {
				t.Errorf("%.40q: %v, %v, and behind %.40q: %v, %v", s, p, q, other, p2, q2)
			}
		}
	}
}
