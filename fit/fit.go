// Package fit finds the widest substitution that makes two atoms the same.
package fit

import (
	"warrant/api"
	"warrant/clause"
)

// Outcome tells whether two atoms fit.
type Outcome int

const (
	Unlike   Outcome = 0 // no substitution makes them the same
	Fits     Outcome = 1
	TooLarge Outcome = 2 // they fit, but the atom that both become has a size above api.MaxSize
)

// Substitution has the terms that take the place of variables.
type Substitution struct {
	terms [][]clause.Symbol // by the number of the variable; an empty one where it stays
}

// Widest finds the widest substitution that makes two atoms the same.
// Each term of it stands in the atom that both become: if that is not too
// large, no term of the substitution is.
func Widest(first []clause.Symbol, second []clause.Symbol) (Substitution, Outcome) {
	if len(first) == 0 || len(second) == 0 {
		return Substitution{}, Unlike
	}
	g := layOut(first, second)
	if !g.join(0, len(first)) {
		return Substitution{}, Unlike
	}
	size := g.measure(0)
	if size == endless {
		return Substitution{}, Unlike
	}
	if size > api.MaxSize {
		return Substitution{}, TooLarge
	}
	return g.substitution(), Fits
}

// Apply puts the terms in the place of the variables of an atom. It tells
// false, and gives nothing, if the size would be above api.MaxSize.
func (s Substitution) Apply(atom []clause.Symbol) ([]clause.Symbol, bool) {
	var result []clause.Symbol
	for _, symbol := range atom {
		term := s.termOf(symbol)
		if len(term) == 0 {
			result = append(result, symbol)
		} else {
			result = append(result, term...)
		}
		if len(result) > api.MaxSize {
			return nil, false
		}
	}
	return result, true
}

func (s Substitution) termOf(symbol clause.Symbol) []clause.Symbol {
	isBound := symbol.Name == "" && symbol.Number >= 0 && symbol.Number < len(s.terms)
	if !isBound {
		return nil
	}
	return s.terms[symbol.Number]
}
