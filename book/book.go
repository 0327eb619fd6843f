// Package book reads a text as a rulebook: as lines, whatever their names and
// numbers mean.
package book

import (
	"statute/api"
	"statute/token"
)

// The kinds of lines.
const (
	Num  = 1
	Flag = 2
	Rule = 3
	Over = 4
)

// Line is a line of a rulebook. Which fields it uses depends on its kind.
type Line struct {
	Kind      int
	Name      string // of an input; a rule's label; of Over the upper rule
	Low       int    // of Num
	High      int    // of Num
	Concludes string // of Rule
	Sum       []Part // of Rule
	Guard     Guard  // of Rule
	Lower     string // of Over: the lower rule
}

// Part is a part of a sum: a number, a number of times a name, or a name.
type Part struct {
	Minus   bool
	Starred bool // the number stands ahead of the name
	Number  int
	Name    string // empty, if the part is a number alone
}

// Reading is what came of a text: its lines, or the error and its place.
type Reading struct {
	Lines []Line
	Err   api.Errno
	Place int
}

// Read reads a text: ErrLong, ErrForm and the place of the first token that
// can't stand where it stands, or its lines.
func Read(src string) Reading {
	if len(src) > api.MaxText {
		return Reading{Err: api.ErrLong}
	}
	r := reader{tokens: token.Read(src)}
	lines := []Line{}
	for !r.failed && !r.next(token.End) {
		line := r.line()
		lines = append(lines, line)
	}
	if r.failed {
		return Reading{Err: api.ErrForm, Place: r.tokens[r.at].Place}
	}
	return Reading{Lines: lines}
}
