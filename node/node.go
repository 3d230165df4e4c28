// Package node has the nodes of a search, and the tries that lead from one to the next.
package node

import (
	"warrant/api"
	"warrant/clause"
	"warrant/fit"
)

// Outcome tells what a try came to.
type Outcome int

const (
	Unlike  Outcome = 0 // the head and the first goal do not fit
	Fits    Outcome = 1 // there is a child
	TooMuch Outcome = 2 // they fit, but a bound would be passed
)

// Node is a place in a search.
type Node struct {
	Goals    [][]clause.Symbol
	Values   [][]clause.Symbol // a term for each variable of the query
	Replaced [][]clause.Symbol // the first goal of each node ahead, with all substitutions since then
	unused   int               // a number from which on those of variables stand nowhere
}

// Top is the node with which a search for a query begins.
func Top(query clause.Clause) Node {
	var top Node
	for _, atom := range query.Body {
		top.Goals = append(top.Goals, renamed(atom, 0))
	}
	for i := range query.Variables {
		top.Values = append(top.Values, []clause.Symbol{{Number: i}})
	}
	top.unused = len(query.Variables)
	return top
}

// Try tries the node with a clause. Unless it fits, there is no child.
func (n Node) Try(c clause.Clause) (Node, Outcome) {
	if len(n.Goals) == 0 {
		return Node{}, Unlike
	}
	head := renamed(c.Head, n.unused)
	substitution, outcome := fit.Widest(n.Goals[0], head)
	if outcome == fit.Unlike {
		return Node{}, Unlike
	}
	goals := len(c.Body) + len(n.Goals) - 1
	way := len(n.Replaced) + 1
	if outcome == fit.TooLarge || goals > api.MaxGoals || way > api.MaxBranch {
		return Node{}, TooMuch
	}
	child := n.withBody(c)
	return child.withTerms(substitution)
}

// withBody is the child ahead of the substitution.
func (n Node) withBody(c clause.Clause) Node {
	child := Node{Values: n.Values, unused: n.unused + len(c.Variables)}
	for _, atom := range c.Body {
		child.Goals = append(child.Goals, renamed(atom, n.unused))
	}
	for i, goal := range n.Goals {
		if i > 0 {
			child.Goals = append(child.Goals, goal)
		}
	}
	for _, goal := range n.Replaced {
		child.Replaced = append(child.Replaced, goal)
	}
	if len(n.Goals) > 0 {
		child.Replaced = append(child.Replaced, n.Goals[0])
	}
	return child
}

// withTerms applies a substitution to all that a node has.
func (n Node) withTerms(s fit.Substitution) (Node, Outcome) {
	goals, areGoalsSmall := applied(s, n.Goals)
	values, areValuesSmall := applied(s, n.Values)
	replaced, areReplacedSmall := applied(s, n.Replaced)
	if !areGoalsSmall || !areValuesSmall || !areReplacedSmall {
		return Node{}, TooMuch
	}
	return Node{Goals: goals, Values: values, Replaced: replaced, unused: n.unused}, Fits
}

// applied tells false, and gives nothing, if one of the atoms becomes too large.
func applied(s fit.Substitution, atoms [][]clause.Symbol) ([][]clause.Symbol, bool) {
	var result [][]clause.Symbol
	for _, atom := range atoms {
		changed, isSmall := s.Apply(atom)
		if !isSmall {
			return nil, false
		}
		result = append(result, changed)
	}
	return result, true
}

// renamed gives the variables of an atom new numbers, from one on.
func renamed(atom []clause.Symbol, from int) []clause.Symbol {
	var result []clause.Symbol
	for _, symbol := range atom {
		if symbol.Name == "" {
			symbol.Number += from
		}
		result = append(result, symbol)
	}
	return result
}
