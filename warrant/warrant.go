// Package warrant: a search through clauses, whose answers come with warrants: see DOC.md.
package warrant

import (
	"warrant/api"
	"warrant/clause"
	"warrant/proof"
	"warrant/reader"
	"warrant/trees"
)

// Program reads a program and writes it in order (P3, P4).
func Program(s string) (string, api.Errno, int) {
	clauses, fault := reader.Program(s)
	if fault.Err != api.OK {
		return "", fault.Err, fault.Place
	}
	return clause.ProgramText(clauses), api.OK, 0
}

// Query reads a query and writes it in order (P3, P4).
func Query(s string) (string, api.Errno, int) {
	query, fault := reader.Query(s)
	if fault.Err != api.OK {
		return "", fault.Err, fault.Place
	}
	return clause.QueryText(query), api.OK, 0
}

// Yes checks a warrant, and tells its answer (P8).
func Yes(program string, query string, warrant string) (string, api.Errno, int) {
	held, fault := proof.Check(program, query, warrant)
	if fault.Err != api.OK {
		return "", fault.Err, fault.Place
	}
	return held.Answer(), api.OK, 0
}

// Explain writes what a warrant says (P9).
func Explain(program string, query string, warrant string) (string, api.Errno, int) {
	held, fault := proof.Check(program, query, warrant)
	if fault.Err != api.OK {
		return "", fault.Err, fault.Place
	}
	return held.Explanation(), api.OK, 0
}

// All checks a tree, and tells its answers (P11).
func All(program string, query string, tree string) ([]string, api.Errno, int) {
	answers, fault := trees.Answers(program, query, tree)
	if fault.Err != api.OK {
		return nil, fault.Err, fault.Place
	}
	return answers, api.OK, 0
}
