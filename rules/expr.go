// Package rules reads rules.
package rules

import (
	"seam/api"
	"seam/runes"
)

// Kind tells what an Expr matches.
type Kind int

const (
	Place Kind = iota // one unit whose rune is in Set
	Seq               // what Parts match, one behind the other
	Or                // what one of Parts matches
	Star              // any number, also none, of what the only part matches
	Plus              // one or more of it
	Maybe             // one or none of it
)

// Expr is an expr as a tree. All uses of a name share the one Expr by which
// it was defined: written out they might be more than any memory holds.
type Expr struct {
	Kind   Kind
	Set    runes.Set
	Parts  []*Expr
	Places int // how many places it has; above api.MaxPlaces: too many
}

func one(set runes.Set) *Expr { return &Expr{Kind: Place, Set: set, Places: 1} }

func repeat(kind Kind, part *Expr) *Expr {
	return &Expr{Kind: kind, Parts: []*Expr{part}, Places: part.Places}
}

func join(kind Kind, parts []*Expr) *Expr {
	if len(parts) == 1 {
		return parts[0]
	}
	return &Expr{Kind: kind, Parts: parts, Places: Total(parts)}
}

// Total is how many places some exprs have together; above api.MaxPlaces it
// only says that they are too many, since names within names may have more
// than an int can count.
func Total(exprs []*Expr) int {
	total := 0
	for _, e := range exprs {
		total = min(total+e.Places, api.MaxPlaces+1)
	}
	return total
}
