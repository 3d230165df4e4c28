// Package trees holds the trees of searches against the nodes, and tells their answers.
package trees

import (
	"warrant/api"
	"warrant/clause"
	"warrant/node"
	"warrant/number"
	"warrant/reader"
)

// Answers holds a tree against a program and a query, and tells the answers that it has. With a fault there are none.
func Answers(program string, query string, tree string) ([]string, reader.Fault) {
	clauses, asked, err := reader.Both(program, query)
	if err != api.OK {
		return nil, reader.Fault{Err: err}
	}
	if len(tree) > api.MaxTree {
		return nil, reader.Fault{Err: api.ErrLong}
	}
	fault := checkForm(tree)
	if fault.Err != api.OK {
		return nil, fault
	}
	h := holding{clauses: clauses, variables: asked.Variables, tree: tree}
	top := node.Top(asked)
	return h.answersFrom(top)
}

// holding is how far a tree has been held against the nodes.
type holding struct {
	clauses   []clause.Clause
	variables []string // what those of the query are called in it
	tree      string
	at        int     // the place up to which it holds
	way       []level // the nodes whose brackets are open, from the top down
	answers   []string
}

// level is a node, and from which clause on there may be others that fit it.
type level struct {
	node node.Node
	next int
}

// answersFrom ends, because each turn of its loop goes on in the tree or is the last.
func (h *holding) answersFrom(top node.Node) ([]string, reader.Fault) {
	holds := h.enter(top)
	for holds && len(h.way) > 0 {
		holds = h.goOn()
	}
	if !holds {
		return nil, reader.Fault{Err: api.ErrWrong, Place: h.at}
	}
	return h.answers, reader.Fault{}
}

// enter holds the beginning of a node's tree.
func (h *holding) enter(n node.Node) bool {
	if len(n.Goals) == 0 {
		if !h.pass('!') {
			return false
		}
		answer := clause.AnswerText(h.variables, n.Values)
		h.answers = append(h.answers, answer)
		return true
	}
	if !h.pass('(') {
		return false
	}
	h.way = append(h.way, level{node: n})
	return true
}

// goOn holds the next number, and the beginning of the tree behind it, or the end of a node's tree.
func (h *holding) goOn() bool {
	wanted, child, outcome := h.nextThatFits()
	if outcome == node.TooMuch {
		return false
	}
	if outcome == node.Unlike {
		return h.leave()
	}
	told, end := number.At(h.tree, h.at)
	if end == h.at || told != wanted {
		return false
	}
	h.at = end
	return h.enter(child)
}

// nextThatFits tries the last node on the way, up to the next clause that fits. If there is none, it tells Unlike.
func (h *holding) nextThatFits() (int, node.Node, node.Outcome) {
	last := len(h.way) - 1
	for last >= 0 && h.way[last].next < len(h.clauses) {
		tried := h.way[last].next
		h.way[last].next++
		child, outcome := h.way[last].node.Try(h.clauses[tried])
		if outcome != node.Unlike {
			return tried, child, outcome
		}
	}
	return 0, node.Node{}, node.Unlike
}

// leave holds the end of the last node's tree.
func (h *holding) leave() bool {
	last := len(h.way) - 1
	if last < 0 || !h.pass(')') {
		return false
	}
	h.way = h.way[:last]
	return true
}

// pass goes on behind a byte, if it is the one that must stand there.
func (h *holding) pass(wanted byte) bool {
	if byteAt(h.tree, h.at) != wanted {
		return false
	}
	h.at++
	return true
}
