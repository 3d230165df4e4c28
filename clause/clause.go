// Package clause has the form in which atoms, terms and clauses are kept, and writes them in order.
package clause

import "strconv"

// Symbol is a name or a variable of an atom.
type Symbol struct {
	Name   string // empty for a variable
	Number int    // which variable of its clause it is; 0 for a name
	Args   int    // how many terms stand in the brackets behind a name
}

// Clause is a head and a body. A query is a clause without a head.
// An atom is kept as its symbols in the order in which they are written: how
// many terms stand behind each of them tells where the brackets are.
type Clause struct {
	Head      []Symbol
	Body      [][]Symbol
	Variables []string // what they are called in the text, in the order in which they first stand in it
}

// ProgramText writes a program in order.
func ProgramText(clauses []Clause) string {
	text := ""
	for _, c := range clauses {
		text += ruleText(c) + "\n"
	}
	return text
}

// QueryText writes a query in order.
func QueryText(query Clause) string { return bodyText(query.Body) + "." }

// AnswerText writes the values of a query's variables; these are called as in the query.
func AnswerText(variables []string, values [][]Symbol) string {
	if len(variables) == 0 {
		return "yes"
	}
	text := ""
	for i, value := range Texts(values) {
		if i >= len(variables) {
			break
		}
		if i > 0 {
			text += ","
		}
		text += variables[i] + "=" + value
	}
	return text
}

// Texts writes atoms or terms; their variables are called in the order in which they first stand in all of them.
func Texts(terms [][]Symbol) []string {
	var texts []string
	for _, term := range inOrder(terms) {
		texts = append(texts, atomText(term))
	}
	return texts
}

// inOrder numbers the variables of atoms or terms anew, in the order in which they first stand in all of them.
func inOrder(terms [][]Symbol) [][]Symbol {
	var result [][]Symbol
	var met []int // the numbers that they had, in their order
	for _, term := range terms {
		var changed []Symbol
		for _, symbol := range term {
			if symbol.Name == "" {
				place := placeOf(symbol.Number, met)
				if place == len(met) {
					met = append(met, symbol.Number)
				}
				symbol.Number = place
			}
			changed = append(changed, symbol)
		}
		result = append(result, changed)
	}
	return result
}

// placeOf is the length of the list, if the number is not in it.
func placeOf(number int, list []int) int {
	place := 0
	for place < len(list) && list[place] != number {
		place++
	}
	return place
}

// VariableName is what the n-th variable (from 0 on) is called where variables are written.
func VariableName(n int) string {
	letter := string(rune('A' + n%26))
	if n/26 == 0 {
		return letter
	}
	return letter + strconv.Itoa(n/26)
}

func ruleText(c Clause) string {
	head := atomText(c.Head)
	if len(c.Body) == 0 {
		return head + "."
	}
	return head + " :- " + bodyText(c.Body) + "."
}

func bodyText(body [][]Symbol) string {
	text := ""
	for i, atom := range body {
		if i > 0 {
			text += ", "
		}
		text += atomText(atom)
	}
	return text
}

func atomText(atom []Symbol) string {
	text := ""
	var missing []int // for each open bracket, how many of its terms are not yet whole
	for _, symbol := range atom {
		text += symbolText(symbol)
		if symbol.Args > 0 {
			text += "("
			missing = append(missing, symbol.Args)
			continue
		}
		// A term that ends may end the term around it, and so on outwards.
		for len(missing) > 0 {
			last := len(missing) - 1
			missing[last]--
			if missing[last] > 0 {
				text += ","
				break
			}
			text += ")"
			missing = missing[:last]
		}
	}
	return text
}

func symbolText(symbol Symbol) string {
	if symbol.Name == "" {
		return VariableName(symbol.Number)
	}
	return symbol.Name
}
