// Package model has a rulebook that Check finds nothing wrong with in a form
// that can be asked: names are places in lists, and nothing of the text is kept.
package model

import (
	"statute/api"
	"statute/graph"
)

// Model is a rulebook.
type Model struct {
	Inputs      []Input     // in the order of their lines
	Conclusions []api.Level // in their order
	Rules       []Rule      // in the order of the text
	above       graph.Graph // from each rule to those that it stands above
}

// Input is a num and its range, or a flag.
type Input struct {
	Name   string
	IsFlag bool
	Low    int
	High   int
}

// Rule is a rule; its conclusion is a place among the conclusions.
type Rule struct {
	Label     string
	Concludes int
	sum       []part
	guard     []node // each behind those that it is made of
	root      int
}

// The kinds of parts.
const (
	plain        = 1
	ofInput      = 2
	ofConclusion = 3
)

// part is a part of a sum: a number, or so many times what stands at a place.
type part struct {
	kind   int
	number int // below 0 behind a minus
	place  int
}

// node is a node of a guard, of a kind of package book. A comparison holds if
// the first side is less, equal or more and the field of that name is true.
type node struct {
	kind    int
	left    int // of Or, And, Not: the place of a node
	right   int // of Or, And: likewise
	place   int // of Has: a conclusion; of IsFlag and Compare: an input
	twoNums bool
	other   int // of Compare: the second input, if it is of two nums
	number  int // of Compare: the number, if it is not
	less    bool
	equal   bool
	more    bool
}

// StandsAbove tells of two rules, by their places, whether the first stands
// above the second.
func (m *Model) StandsAbove(upper int, lower int) bool {
	return m.above.Has(upper, lower)
}
