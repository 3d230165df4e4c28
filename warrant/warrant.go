// Package warrant: a search through clauses, whose answers come with warrants: see DOC.md.
package warrant

import (
	"warrant/api"
	"warrant/clause"
	"warrant/reader"
)

// Program reads a program and writes it in order (P3, P4).
func Program(s string) (string, api.Errno, int) {
	clauses, fault := reader.Program(s)
	if fault.Err != api.OK {
		return "", fault.Err, fault.Place
	}
	return clause.ProgramText(clauses), api.OK, 0
}

// Query reads a query and writes it in order (P3, P4).
func Query(s string) (string, api.Errno, int) {
	query, fault := reader.Query(s)
	if fault.Err != api.OK {
		return "", fault.Err, fault.Place
	}
	return clause.QueryText(query), api.OK, 0
}

// Search is a search for the answers of a query.
type Search struct{}

// New makes a search (P6).
func New(program string, query string) (*Search, api.Errno) { return nil, api.OK }

// Step makes tries, and tells how many (P6).
func (x *Search) Step(n int) (int, api.Errno) { return 0, api.OK }

// Status tells how the search stands (P6).
func (x *Search) Status() int { return 0 }

// Answer tells the answer that has been found (P7).
func (x *Search) Answer() string { return "" }

// Warrant tells by which clauses the answer was found (P8).
func (x *Search) Warrant() string { return "" }

// Tree tells, at the end of a search, all that was found to fit (P10).
func (x *Search) Tree() string { return "" }

// Yes checks a warrant, and tells its answer (P8).
func Yes(program string, query string, warrant string) (string, api.Errno, int) {
	return "", api.OK, 0
}

// Explain writes what a warrant says (P9).
func Explain(program string, query string, warrant string) (string, api.Errno, int) {
	return "", api.OK, 0
}

// All checks a tree, and tells its answers (P11).
func All(program string, query string, tree string) ([]string, api.Errno, int) {
	return nil, api.OK, 0
}
