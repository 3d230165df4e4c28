package warrant_test

import (
	"fmt"
	"regexp"
	"strings"

	"warrant/api"
)

// A search written apart from the program's, as near to the words of the
// document as can be: terms are trees, a substitution is a map, and all tries
// of a search are made at once.

// tree is a term: a variable, if it has no name.
type tree struct {
	name     string
	variable string
	args     []tree
}

type rule struct {
	head tree
	body []tree
}

var tokenForm = regexp.MustCompile(`[A-Za-z][A-Za-z0-9]*|:-|[(),.]`)

// readRules reads a text that Program took; of one that Query took, it is one rule without a head.
func readRules(text string, isQuery bool) []rule {
	tokens := tokenForm.FindAllString(text, -1)
	var rules []rule
	for len(tokens) > 0 {
		var r rule
		if !isQuery {
			r.head, tokens = readTree(tokens)
		}
		for isQuery || tokens[0] != "." {
			var atom tree
			if !isQuery || len(r.body) > 0 {
				tokens = tokens[1:]
			}
			atom, tokens = readTree(tokens)
			r.body = append(r.body, atom)
			if tokens[0] == "." {
				break
			}
		}
		tokens = tokens[1:]
		rules = append(rules, r)
	}
	return rules
}

func readTree(tokens []string) (tree, []string) {
	t := tree{name: tokens[0]}
	if tokens[0][0] < 'a' {
		t = tree{variable: tokens[0]}
	}
	tokens = tokens[1:]
	if tokens[0] != "(" {
		return t, tokens
	}
	for tokens[0] != ")" {
		var arg tree
		arg, tokens = readTree(tokens[1:])
		t.args = append(t.args, arg)
	}
	return t, tokens[1:]
}

func (t tree) variables(list []string) []string {
	if t.name == "" {
		for _, known := range list {
			if known == t.variable {
				return list
			}
		}
		return append(list, t.variable)
	}
	for _, arg := range t.args {
		list = arg.variables(list)
	}
	return list
}

func (t tree) called(prefix string) tree {
	if t.name == "" {
		return tree{variable: prefix + t.variable}
	}
	result := tree{name: t.name}
	for _, arg := range t.args {
		result.args = append(result.args, arg.called(prefix))
	}
	return result
}

// text calls variables by the place that they have in a list.
func (t tree) text(names []string) string {
	if t.name == "" {
		for i, name := range names {
			if name == t.variable {
				return letters(i)
			}
		}
	}
	if len(t.args) == 0 {
		return t.name
	}
	var args []string
	for _, arg := range t.args {
		args = append(args, arg.text(names))
	}
	return t.name + "(" + strings.Join(args, ",") + ")"
}

func letters(n int) string {
	if n < 26 {
		return string(rune('A' + n))
	}
	return fmt.Sprintf("%c%d", 'A'+n%26, n/26)
}

// bindings is a substitution: a variable may be bound to a term that has others in it that are bound.
type bindings map[string]tree

func (b bindings) walk(t tree) tree {
	for t.name == "" {
		next, bound := b[t.variable]
		if !bound {
			return t
		}
		t = next
	}
	return t
}

func (b bindings) unify(s, t tree) bool {
	s, t = b.walk(s), b.walk(t)
	switch {
	case s.name == "" && t.name == "" && s.variable == t.variable:
		return true
	case s.name == "":
		if b.standsIn(s.variable, t, map[string]bool{}) {
			return false
		}
		b[s.variable] = t
		return true
	case t.name == "":
		return b.unify(t, s)
	case s.name != t.name || len(s.args) != len(t.args):
		return false
	}
	for i := range s.args {
		if !b.unify(s.args[i], t.args[i]) {
			return false
		}
	}
	return true
}

func (b bindings) standsIn(variable string, t tree, seen map[string]bool) bool {
	if t.name == "" {
		if t.variable == variable {
			return true
		}
		next, bound := b[t.variable]
		if !bound || seen[t.variable] {
			return false
		}
		seen[t.variable] = true
		return b.standsIn(variable, next, seen)
	}
	for _, arg := range t.args {
		if b.standsIn(variable, arg, seen) {
			return true
		}
	}
	return false
}

func (b bindings) size(t tree, known map[string]int) int {
	if t.name == "" {
		next, bound := b[t.variable]
		if !bound {
			return 1
		}
		if known[t.variable] == 0 {
			known[t.variable] = b.size(next, known)
		}
		return known[t.variable]
	}
	size := 1
	for _, arg := range t.args {
		size += b.size(arg, known)
	}
	return size
}

func (b bindings) apply(t tree) tree {
	t = b.walk(t)
	result := tree{name: t.name, variable: t.variable}
	for _, arg := range t.args {
		result.args = append(result.args, b.apply(arg))
	}
	return result
}

func (b bindings) applyAll(list []tree) []tree {
	var result []tree
	for _, t := range list {
		result = append(result, b.apply(t))
	}
	return result
}

// What a try came to.
const (
	unlike  = "unlike"
	goesOn  = "goes on"
	tooMuch = "too much"
	// an answer is told as itself
)

// Which bound a try that is too much passes.
const (
	byGoals    = "goals"
	byBranch   = "branch"
	bySize     = "size of a goal"
	byReplaced = "size of a replaced goal"
)

type place struct {
	goals, values, replaced []tree
}

// record is what all tries of a search come to, in their order.
type record struct {
	program []rule
	names   []string
	tries   []string // one of the words above, or an answer
	ways    []string // the warrant of each answer; empty for other tries
	shape   string   // the tree of the top node; only a part of it, if the tries end early
	more    bool     // whether there is a try behind them, which MaxTries forbids
	bound   string   // if the last is too much: the first bound that it passes
	deepest int
	renamed int
}

func recordOf(program, query string) *record {
	r := newRecord(program, query)
	r.visit(topOf(query), "")
	return r
}

// newRecord is one behind no try.
func newRecord(program, query string) *record {
	r := &record{program: readRules(program, false)}
	for _, atom := range readRules(query, true)[0].body {
		r.names = atom.variables(r.names)
	}
	return r
}

func topOf(query string) place {
	top := place{}
	var names []string
	for _, atom := range readRules(query, true)[0].body {
		names = atom.variables(names)
		top.goals = append(top.goals, atom.called("query "))
	}
	for _, name := range names {
		top.values = append(top.values, tree{variable: "query " + name})
	}
	return top
}

// visit tells whether the search goes on behind the node.
func (r *record) visit(p place, way string) bool {
	r.deepest = max(r.deepest, len(p.replaced))
	r.shape += "("
	for i, c := range r.program {
		if len(r.tries) == api.MaxTries {
			r.more = true
			return false
		}
		to := fmt.Sprint(way, i)
		child, outcome := r.try(p, c)
		if outcome == goesOn && len(child.goals) == 0 {
			r.tries = append(r.tries, r.answer(child))
			r.ways = append(r.ways, to)
			r.shape += fmt.Sprint(i, "!")
			continue
		}
		r.tries = append(r.tries, outcome)
		r.ways = append(r.ways, "")
		if outcome == goesOn {
			r.shape += fmt.Sprint(i)
		}
		if outcome == tooMuch || (outcome == goesOn && !r.visit(child, to+".")) {
			return false
		}
	}
	r.shape += ")"
	return true
}

// try tells, if it is too much, the first bound that it passes in the record.
func (r *record) try(p place, c rule) (place, string) {
	r.renamed++
	prefix := fmt.Sprint(r.renamed, " ")
	b := bindings{}
	if !b.unify(p.goals[0], c.head.called(prefix)) {
		return place{}, unlike
	}
	var goals []tree
	for _, atom := range c.body {
		goals = append(goals, atom.called(prefix))
	}
	goals = append(goals, p.goals[1:]...)
	replaced := append(append([]tree{}, p.replaced...), p.goals[0])
	r.bound = passed(b, goals, replaced)
	if r.bound != "" {
		return place{}, tooMuch
	}
	return place{b.applyAll(goals), b.applyAll(p.values), b.applyAll(replaced)}, goesOn
}

func passed(b bindings, goals, replaced []tree) string {
	if len(goals) > api.MaxGoals {
		return byGoals
	}
	if len(replaced) > api.MaxBranch {
		return byBranch
	}
	known := map[string]int{}
	for _, t := range goals {
		if b.size(t, known) > api.MaxSize {
			return bySize
		}
	}
	for _, t := range replaced {
		if b.size(t, known) > api.MaxSize {
			return byReplaced
		}
	}
	return ""
}

func (r *record) answer(p place) string {
	if len(r.names) == 0 {
		return "yes"
	}
	var inside []string
	for _, value := range p.values {
		inside = value.variables(inside)
	}
	var parts []string
	for i, value := range p.values {
		parts = append(parts, r.names[i]+"="+value.text(inside))
	}
	return strings.Join(parts, ",")
}

// answers are all that the tries of the record give.
func (r *record) answers() []string {
	var list []string
	for i, way := range r.ways {
		if way != "" {
			list = append(list, r.tries[i])
		}
	}
	return list
}

// replay is how a search with this record stands behind some Steps, by the words of P6.
type replay struct {
	*record
	made    int
	status  int
	answer  string
	warrant string
	tree    string
}

func (r *replay) step(n int) (int, api.Errno) {
	if n < 0 || n > api.MaxSteps {
		return 0, api.ErrArg
	}
	if r.status == api.No || r.status == api.Full {
		return 0, api.OK
	}
	from := r.made
	last := ""
	for r.made-from < n && r.made < len(r.tries) && (last == "" || last == unlike || last == goesOn) {
		last = r.tries[r.made]
		r.made++
	}
	r.answer, r.warrant = "", ""
	switch {
	case last == tooMuch:
		r.status = api.Full
	case last != "" && last != unlike && last != goesOn:
		r.status = api.Answer
		r.answer, r.warrant = last, r.ways[r.made-1]
	case r.made == len(r.tries) && !r.more:
		r.status = api.No
		r.tree = r.shape
	case r.made == api.MaxTries:
		r.status = api.Full
	default:
		r.status = api.Seeks
	}
	return r.made - from, api.OK
}
