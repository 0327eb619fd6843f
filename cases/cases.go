// Package cases reads facts: what a case gives the inputs of a rulebook.
package cases

import (
	"statute/api"
	"statute/model"
	"statute/token"
)

// Reading is what came of facts: a number for each input (1 for a flag's yes,
// 0 for its no), or the error.
type Reading struct {
	Inputs []int
	Err    api.Errno
}

// fact is what one of the facts says, of whichever name.
type fact struct {
	name     string
	isNumber bool // else it is yes or no
	value    int
}

// width is how many tokens a fact has: a name, `=`, a value and `;`.
const width = 4

// Read reads facts for the inputs of a rulebook: ErrLong, ErrForm, ErrFacts, or
// the case.
func Read(text string, m *model.Model) Reading {
	if len(text) > api.MaxFacts {
		return Reading{Err: api.ErrLong}
	}
	tokens := token.Read(text)
	if !areFacts(tokens) {
		return Reading{Err: api.ErrForm}
	}
	inputs := make([]int, len(m.Inputs))
	given := make([]bool, len(m.Inputs))
	for at := 0; at+width < len(tokens); at += width {
		f := factOf(tokens[at], tokens[at+2])
		place := m.FindInput(f.name)
		if place < 0 || given[place] || !fits(f, m.Inputs[place]) {
			return Reading{Err: api.ErrFacts}
		}
		inputs[place] = f.value
		given[place] = true
	}
	for _, is := range given {
		if !is {
			return Reading{Err: api.ErrFacts}
		}
	}
	return Reading{Inputs: inputs}
}

// areFacts tells whether all tokens, but for the last, of the kind End, make up
// facts.
func areFacts(tokens []token.Token) bool {
	for i, t := range tokens {
		switch i % width {
		case 0:
			if t.Kind == token.End {
				return true
			}
			if t.Kind != token.Name {
				return false
			}
		case 1:
			if !isFixed(t, "=") {
				return false
			}
		case 2:
			if t.Kind != token.Number && !isYesOrNo(t) {
				return false
			}
		case 3:
			if !isFixed(t, ";") {
				return false
			}
		}
	}
	return false
}

func isFixed(t token.Token, text string) bool {
	return t.Kind == token.Fixed && t.Text == text
}

func isYesOrNo(t token.Token) bool {
	return t.Kind == token.Name && (t.Text == "yes" || t.Text == "no")
}

func factOf(name token.Token, value token.Token) fact {
	if value.Kind == token.Number {
		return fact{name: name.Text, isNumber: true, value: value.Value}
	}
	f := fact{name: name.Text}
	if value.Text == "yes" {
		f.value = 1
	}
	return f
}

// fits tells whether an input can have what a fact gives it.
func fits(f fact, input model.Input) bool {
	if input.IsFlag {
		return !f.isNumber
	}
	return f.isNumber && input.Low <= f.value && f.value <= input.High
}
