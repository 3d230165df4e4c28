package fit

import (
	"warrant/api"
	"warrant/clause"
)

// What is known of the size of a term.
const (
	unknown = 0
	endless = -1 // it would stand in itself; or, while it is being measured, it would if it were met again
)

// cell is a symbol of one of the two atoms, and the term that begins with it.
type cell struct {
	symbol clause.Symbol
	behind int // the place of the cell behind the term
	leader int // the place of a cell that becomes the same term; its own, if it speaks for them all
	size   int // kept for leaders: how large the term becomes
}

// graph has the cells of two atoms, one atom behind the other. No term is
// written out while they are joined: one that is made of few cells may be
// vast.
type graph struct {
	cells []cell
}

func layOut(first []clause.Symbol, second []clause.Symbol) graph {
	var g graph
	for _, symbol := range first {
		g.add(symbol)
	}
	for _, symbol := range second {
		g.add(symbol)
	}
	g.markEnds()
	return g
}

// add lets the first cell of a variable speak for all others of it.
func (g *graph) add(symbol clause.Symbol) {
	leader := 0
	for leader < len(g.cells) && !isSameVariable(g.cells[leader].symbol, symbol) {
		leader++
	}
	g.cells = append(g.cells, cell{symbol: symbol, leader: leader})
}

func isSameVariable(first clause.Symbol, second clause.Symbol) bool {
	return first.Name == "" && second.Name == "" && first.Number == second.Number
}

// markEnds goes backwards, so that the ends of a cell's own terms are known.
func (g *graph) markEnds() {
	for i := len(g.cells) - 1; i >= 0; i-- {
		end := i + 1
		for n := 0; n < g.cells[i].symbol.Args && end < len(g.cells); n++ {
			end = g.cells[end].behind
		}
		g.cells[i].behind = end
	}
}

// join makes two terms the same, and tells false if their names are not. It
// ends, because each join that goes on to the terms inside leaves one leader
// less.
func (g *graph) join(first int, second int) bool {
	a := g.leaderOf(first)
	b := g.leaderOf(second)
	if a == b {
		return true
	}
	if g.isVariable(a) {
		g.cells[a].leader = b
		return true
	}
	g.cells[b].leader = a
	if g.isVariable(b) {
		return true
	}
	return g.joinInside(a, b)
}

func (g *graph) joinInside(first int, second int) bool {
	symbol := g.cells[first].symbol
	other := g.cells[second].symbol
	if symbol.Name != other.Name || symbol.Args != other.Args {
		return false
	}
	a := first + 1
	b := second + 1
	for n := 0; n < symbol.Args; n++ {
		if a >= len(g.cells) || b >= len(g.cells) || !g.join(a, b) {
			return false
		}
		a = g.cells[a].behind
		b = g.cells[b].behind
	}
	return true
}

// leaderOf ends, because a cell is only ever led by one that led itself.
func (g *graph) leaderOf(place int) int {
	for g.cells[place].leader != place {
		place = g.cells[place].leader
	}
	return place
}

func (g *graph) isVariable(place int) bool { return g.cells[place].symbol.Name == "" }

// measure tells how large a term becomes: one more than api.MaxSize, if it is
// larger; endless, if a term in it would stand in itself.
func (g *graph) measure(place int) int {
	leader := g.leaderOf(place)
	if g.cells[leader].size != unknown {
		return g.cells[leader].size
	}
	g.cells[leader].size = endless
	total := 1
	at := leader + 1
	for n := 0; n < g.cells[leader].symbol.Args && at < len(g.cells); n++ {
		size := g.measure(at)
		if size == endless {
			return endless
		}
		total += size
		at = g.cells[at].behind
	}
	if total > api.MaxSize {
		total = api.MaxSize + 1
	}
	g.cells[leader].size = total
	return total
}

// substitution is asked for when all terms have been measured and none is endless or too large.
func (g *graph) substitution() Substitution {
	var s Substitution
	for place, c := range g.cells {
		number := c.symbol.Number
		if c.symbol.Name != "" || number < 0 {
			continue
		}
		for len(s.terms) <= number {
			s.terms = append(s.terms, nil)
		}
		if len(s.terms[number]) == 0 {
			s.terms[number] = g.written(place)
		}
	}
	return s
}

// written writes out the term that a cell becomes.
func (g *graph) written(place int) []clause.Symbol {
	leader := g.leaderOf(place)
	symbol := g.cells[leader].symbol
	var term []clause.Symbol
	term = append(term, symbol)
	at := leader + 1
	for n := 0; n < symbol.Args && at < len(g.cells); n++ {
		inner := g.written(at)
		term = append(term, inner...)
		at = g.cells[at].behind
	}
	return term
}
