// Package reader reads programs and queries, and tells the first token at which a text is none.
package reader

import (
	"warrant/api"
	"warrant/clause"
	"warrant/token"
)

// Fault is why a text is refused, and the place that is told. Of a text that is not refused it is the zero value.
type Fault struct {
	Err   api.Errno
	Place int
}

// Program reads the clauses of a program.
func Program(s string) ([]clause.Clause, Fault) {
	if len(s) > api.MaxProgram {
		return nil, Fault{Err: api.ErrLong}
	}
	r := reading{next: clauseOrEnd}
	fault := r.readAll(s)
	if fault.Err != api.OK {
		return nil, fault
	}
	return r.clauses, Fault{}
}

// Query reads a query: its atoms are the body of the clause that comes out.
func Query(s string) (clause.Clause, Fault) {
	if len(s) > api.MaxQuery {
		return clause.Clause{}, Fault{Err: api.ErrLong}
	}
	r := reading{query: true, next: bodyAtom, inBody: true}
	fault := r.readAll(s)
	if fault.Err != api.OK || len(r.clauses) == 0 {
		return clause.Clause{}, fault
	}
	return r.clauses[0], Fault{}
}

// Both reads a program and a query, and tells which of them is refused, the program first.
func Both(program string, query string) ([]clause.Clause, clause.Clause, api.Errno) {
	clauses, programFault := Program(program)
	if programFault.Err != api.OK {
		return nil, clause.Clause{}, api.ErrProgram
	}
	asked, queryFault := Query(query)
	if queryFault.Err != api.OK {
		return nil, clause.Clause{}, api.ErrQuery
	}
	return clauses, asked, api.OK
}

// expected is what the grammar lets stand next.
type expected int

const (
	clauseOrEnd expected = 0 // a clause of a program, or nothing more
	bodyAtom    expected = 1
	argument    expected = 2
	behindName  expected = 3 // a bracket that opens, or what may stand behind a term
	behindTerm  expected = 4
	endOnly     expected = 5
)

// reading is how far a text has been read.
type reading struct {
	query   bool
	next    expected
	inBody  bool
	atom    []clause.Symbol // what has been read of an atom that is not yet whole
	open    []int           // for each open bracket, which symbol of the atom stands ahead of it
	current clause.Clause   // what has been read of a clause that is not yet whole
	clauses []clause.Clause
}

func (r *reading) readAll(s string) Fault {
	t := token.Next(s, 0)
	for t.Kind != token.End {
		err := r.check(t)
		if err != api.OK {
			return Fault{Err: err, Place: t.Start}
		}
		r.take(t.Kind, textOf(s, t))
		t = token.Next(s, t.End)
	}
	if r.next != clauseOrEnd && r.next != endOnly {
		return Fault{Err: api.ErrText, Place: len(s)}
	}
	return Fault{}
}

// check asks for the grammar ahead of the bounds: where both are broken, ErrText is the answer.
func (r *reading) check(t token.Token) api.Errno {
	if !r.canStand(t.Kind) {
		return api.ErrText
	}
	isWord := t.Kind == token.Name || t.Kind == token.Variable
	if isWord && (t.End-t.Start > api.MaxName || r.isFull()) {
		return api.ErrSize
	}
	return api.OK
}

func (r *reading) canStand(kind token.Kind) bool {
	switch r.next {
	case clauseOrEnd, bodyAtom:
		return kind == token.Name
	case argument:
		return kind == token.Name || kind == token.Variable
	case behindName:
		return kind == token.Open || r.canFollowTerm(kind)
	case behindTerm:
		return r.canFollowTerm(kind)
	}
	return false
}

func (r *reading) canFollowTerm(kind token.Kind) bool {
	if len(r.open) > 0 {
		return kind == token.Comma || kind == token.Close
	}
	if r.inBody {
		return kind == token.Comma || kind == token.Dot
	}
	return kind == token.If || kind == token.Dot
}

// isFull tells whether one more of what is expected would pass a bound.
func (r *reading) isFull() bool {
	switch r.next {
	case clauseOrEnd:
		return len(r.clauses) >= api.MaxClauses
	case bodyAtom:
		return len(r.current.Body) >= api.MaxBody
	case argument:
		return len(r.atom) >= api.MaxSize || r.argumentsSoFar() >= api.MaxArgs
	}
	return false
}

// take adds a token that can stand here and passes no bound.
func (r *reading) take(kind token.Kind, text string) {
	switch kind {
	case token.Name:
		r.addSymbol(clause.Symbol{Name: text})
		r.next = behindName
	case token.Variable:
		number := r.variable(text)
		r.addSymbol(clause.Symbol{Number: number})
		r.next = behindTerm
	case token.Open:
		r.open = append(r.open, len(r.atom)-1)
		r.next = argument
	case token.Close:
		r.closeBracket()
		r.next = behindTerm
	case token.Comma:
		r.takeComma()
	case token.If:
		r.endAtom()
		r.inBody = true
		r.next = bodyAtom
	case token.Dot:
		r.endAtom()
		r.endClause()
	}
}

func (r *reading) takeComma() {
	if len(r.open) > 0 {
		r.next = argument
		return
	}
	r.endAtom()
	r.next = bodyAtom
}

func (r *reading) addSymbol(symbol clause.Symbol) {
	owner := r.owner()
	if owner >= 0 {
		r.atom[owner].Args++
	}
	r.atom = append(r.atom, symbol)
}

func (r *reading) argumentsSoFar() int {
	owner := r.owner()
	if owner < 0 {
		return 0
	}
	return r.atom[owner].Args
}

// owner is which symbol of the atom stands ahead of the innermost open bracket; -1 if none is open.
func (r *reading) owner() int {
	if len(r.open) == 0 {
		return -1
	}
	place := r.open[len(r.open)-1]
	if place >= len(r.atom) {
		return -1
	}
	return place
}

func (r *reading) closeBracket() {
	if len(r.open) > 0 {
		r.open = r.open[:len(r.open)-1]
	}
}

// variable numbers the variables of a clause in the order in which they first stand in it.
func (r *reading) variable(text string) int {
	for i, known := range r.current.Variables {
		if known == text {
			return i
		}
	}
	r.current.Variables = append(r.current.Variables, text)
	return len(r.current.Variables) - 1
}

func (r *reading) endAtom() {
	if r.inBody {
		r.current.Body = append(r.current.Body, r.atom)
	} else {
		r.current.Head = r.atom
	}
	r.atom = nil
}

func (r *reading) endClause() {
	r.clauses = append(r.clauses, r.current)
	r.current = clause.Clause{}
	r.inBody = false
	r.next = clauseOrEnd
	if r.query {
		r.next = endOnly
	}
}

func textOf(s string, t token.Token) string {
	if t.Start < 0 || t.Start > t.End || t.End > len(s) {
		return ""
	}
	return s[t.Start:t.End]
}
