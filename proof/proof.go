// Package proof reads and writes warrants, and follows them from the top node down.
package proof

import (
	"strconv"

	"warrant/api"
	"warrant/clause"
	"warrant/node"
	"warrant/reader"
)

// Proof is a warrant that holds, and what it comes to.
type Proof struct {
	variables []string // what those of the query are called in it
	last      node.Node
	numbers   []int // of the clauses that replaced the goals, in their order
	depths    []int // of the goals that were replaced
}

// Check holds a warrant against a program and a query. With a fault there is no proof.
func Check(program string, query string, warrant string) (Proof, reader.Fault) {
	clauses, asked, err := reader.Both(program, query)
	if err != api.OK {
		return Proof{}, reader.Fault{Err: err}
	}
	numbers, fault := Numbers(warrant)
	if fault.Err != api.OK {
		return Proof{}, fault
	}
	last, fault := follow(clauses, asked, numbers)
	if fault.Err != api.OK {
		return Proof{}, fault
	}
	depths := depthsOf(clauses, asked, numbers)
	return Proof{variables: asked.Variables, last: last, numbers: numbers, depths: depths}, reader.Fault{}
}

// Answer tells the values of the query's variables.
func (p Proof) Answer() string { return clause.AnswerText(p.variables, p.last.Values) }

// Explanation writes a line for each goal that was replaced.
func (p Proof) Explanation() string {
	text := ""
	for i, goal := range clause.Texts(p.last.Replaced) {
		if i >= len(p.depths) || i >= len(p.numbers) {
			break
		}
		text += indent(p.depths[i]) + goal + " by " + strconv.Itoa(p.numbers[i]) + "\n"
	}
	return text
}

func indent(depth int) string {
	text := ""
	for n := 0; n < depth; n++ {
		text += "  "
	}
	return text
}

// follow makes the tries that a warrant tells, and gives the node at their end.
func follow(clauses []clause.Clause, query clause.Clause, numbers []int) (node.Node, reader.Fault) {
	n := node.Top(query)
	for i, number := range numbers {
		if number < 0 || number >= len(clauses) {
			return node.Node{}, reader.Fault{Err: api.ErrWrong, Place: i}
		}
		child, outcome := n.Try(clauses[number])
		if outcome != node.Fits {
			return node.Node{}, reader.Fault{Err: api.ErrWrong, Place: i}
		}
		n = child
	}
	if len(n.Goals) > 0 {
		return node.Node{}, reader.Fault{Err: api.ErrWrong, Place: len(numbers)}
	}
	return n, reader.Fault{}
}

// depthsOf tells the depth of each goal that is replaced, by a warrant that holds.
func depthsOf(clauses []clause.Clause, query clause.Clause, numbers []int) []int {
	var depths []int
	var left []int // the depths of the goals that are left, that of the first goal at the end
	for range query.Body {
		left = append(left, 0)
	}
	for _, number := range numbers {
		first := len(left) - 1
		if first < 0 || number < 0 || number >= len(clauses) {
			break
		}
		depth := left[first]
		depths = append(depths, depth)
		left = left[:first]
		for range clauses[number].Body {
			left = append(left, depth+1)
		}
	}
	return depths
}
