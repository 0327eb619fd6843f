package model

import (
	"statute/api"
	"statute/book"
	"statute/links"
)

// Make makes a Model of the lines of a rulebook.
func Make(lines []book.Line) Model {
	m := Model{above: links.Above(lines)}
	for _, level := range links.Levels(lines) {
		m.Conclusions = append(m.Conclusions, api.Level{Name: own(level.Name), Level: level.Level})
	}
	for _, line := range lines {
		switch line.Kind {
		case book.Num:
			m.Inputs = append(m.Inputs, Input{Name: own(line.Name), Low: line.Low, High: line.High})
		case book.Flag:
			m.Inputs = append(m.Inputs, Input{Name: own(line.Name), IsFlag: true})
		}
	}
	// A rule may name inputs of later lines.
	for _, line := range lines {
		if line.Kind == book.Rule {
			rule := m.makeRule(line)
			m.Rules = append(m.Rules, rule)
		}
	}
	return m
}

// own tells the same name in memory of its own, apart from the text.
func own(name string) string { return string([]byte(name)) }

func (m *Model) makeRule(line book.Line) Rule {
	rule := Rule{Label: own(line.Name), Concludes: m.findConclusion(line.Concludes), root: line.Guard.Root}
	for _, written := range line.Sum {
		made := m.makePart(written)
		rule.sum = append(rule.sum, made)
	}
	for _, written := range line.Guard.Nodes {
		made := m.makeNode(written)
		rule.guard = append(rule.guard, made)
	}
	return rule
}

func (m *Model) makePart(written book.Part) part {
	made := part{kind: plain, number: written.Number}
	if written.Name != "" {
		made.kind = ofInput
		made.place = m.FindInput(written.Name)
		if made.place < 0 {
			made.kind = ofConclusion
			made.place = m.findConclusion(written.Name)
		}
		if !written.Starred {
			made.number = 1
		}
	}
	if written.Minus {
		made.number = -made.number
	}
	return made
}

func (m *Model) makeNode(written book.Node) node {
	made := node{kind: written.Kind, left: written.Left, right: written.Right, number: written.Number}
	switch written.Kind {
	case book.Has:
		made.place = m.findConclusion(written.Name)
	case book.IsFlag, book.Compare:
		made.place = m.FindInput(written.Name)
	}
	if written.Other != "" {
		made.twoNums = true
		made.other = m.FindInput(written.Other)
	}
	switch written.Mark {
	case "<", "<=", "!=":
		made.less = true
	}
	switch written.Mark {
	case "<=", "=", ">=":
		made.equal = true
	}
	switch written.Mark {
	case ">", ">=", "!=":
		made.more = true
	}
	return made
}

// FindInput tells the place of the input of a name, or -1.
func (m *Model) FindInput(name string) int {
	for i, input := range m.Inputs {
		if input.Name == name {
			return i
		}
	}
	return -1
}

// findConclusion tells the place of the conclusion of a name, or -1.
func (m *Model) findConclusion(name string) int {
	for i, conclusion := range m.Conclusions {
		if conclusion.Name == name {
			return i
		}
	}
	return -1
}
