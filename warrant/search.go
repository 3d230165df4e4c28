package warrant

import (
	"strconv"

	"warrant/api"
	"warrant/clause"
	"warrant/node"
	"warrant/proof"
	"warrant/reader"
)

// Search is a search for the answers of a query.
type Search struct {
	clauses   []clause.Clause
	variables []string // what those of the query are called in it
	way       []level  // from the top down; the last one has a clause that has not been tried
	tries     int
	status    int
	values    [][]clause.Symbol // those of the answer, while it is there
	found     []int             // the numbers of the clauses that led to the answer, while it is there
	tree      string            // that of the top node, as far as tries have been made
}

// level is a node on the way down, and which clause it is to be tried with next.
type level struct {
	node node.Node
	next int
}

// New makes a search (P6).
func New(program string, query string) (*Search, api.Errno) {
	clauses, asked, err := reader.Both(program, query)
	if err != api.OK {
		return nil, err
	}
	x := Search{clauses: clauses, variables: asked.Variables, status: api.Seeks}
	top := node.Top(asked)
	x.enter(top)
	x.leaveTried()
	return &x, api.OK
}

// Step makes tries, and tells how many (P6).
func (x *Search) Step(n int) (int, api.Errno) {
	if n < 0 || n > api.MaxSteps {
		return 0, api.ErrArg
	}
	if x.status == api.No || x.status == api.Full {
		return 0, api.OK
	}
	x.status = api.Seeks
	x.values = nil
	x.found = nil
	made := 0
	for made < n && x.status == api.Seeks && len(x.way) > 0 && x.tries < api.MaxTries {
		x.makeTry()
		made++
	}
	if x.status == api.Seeks {
		x.status = x.statusWithoutEvent()
	}
	if x.status == api.Full {
		x.way = nil
		x.tree = ""
	}
	return made, api.OK
}

// Status tells how the search stands (P6).
func (x *Search) Status() int { return x.status }

// Answer tells the answer that has been found (P7).
func (x *Search) Answer() string {
	if x.status != api.Answer {
		return ""
	}
	return clause.AnswerText(x.variables, x.values)
}

// Warrant tells by which clauses the answer was found (P8).
func (x *Search) Warrant() string {
	if x.status != api.Answer {
		return ""
	}
	return proof.Text(x.found)
}

// Tree tells, at the end of a search, all that was found to fit (P10).
func (x *Search) Tree() string {
	if x.status != api.No {
		return ""
	}
	return x.tree
}

// makeTry makes the next try, and tells by the status if it gave an answer or was too much.
func (x *Search) makeTry() {
	last := len(x.way) - 1
	if last < 0 || x.way[last].next >= len(x.clauses) {
		return
	}
	tried := x.way[last].next
	x.way[last].next++
	x.tries++
	child, outcome := x.way[last].node.Try(x.clauses[tried])
	if outcome == node.TooMuch {
		x.status = api.Full
	} else if outcome == node.Fits {
		x.tree += strconv.Itoa(tried)
		x.enter(child)
	}
	x.leaveTried()
}

// enter goes down to a node. One without goals is an answer, and is left at once.
func (x *Search) enter(n node.Node) {
	if len(n.Goals) > 0 {
		x.tree += "("
		x.way = append(x.way, level{node: n})
		return
	}
	x.tree += "!"
	x.status = api.Answer
	x.values = n.Values
	x.found = x.triedLast()
}

// triedLast is, for each node on the way down, the number of the clause that it was last tried with.
func (x *Search) triedLast() []int {
	var numbers []int
	for _, l := range x.way {
		numbers = append(numbers, l.next-1)
	}
	return numbers
}

// leaveTried goes up from nodes that have been tried with all clauses.
func (x *Search) leaveTried() {
	last := len(x.way) - 1
	for last >= 0 && x.way[last].next >= len(x.clauses) {
		x.tree += ")"
		x.way = x.way[:last]
		last--
	}
}

// statusWithoutEvent is the status if the last try neither gave an answer nor was too much.
func (x *Search) statusWithoutEvent() int {
	if len(x.way) == 0 {
		return api.No
	}
	if x.tries >= api.MaxTries {
		return api.Full
	}
	return api.Seeks
}
