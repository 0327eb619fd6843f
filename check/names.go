package check

import (
	"statute/api"
	"statute/book"
)

// lineError tells the error of a line's names and range.
func lineError(lines []book.Line, at int) api.Errno {
	switch lines[at].Kind {
	case book.Num:
		return numError(lines, at)
	case book.Flag:
		return inputError(lines, at)
	case book.Rule:
		return ruleError(lines, at)
	case book.Over:
		return overError(lines, lines[at])
	}
	return api.OK
}

func numError(lines []book.Line, at int) api.Errno {
	err := inputError(lines, at)
	if err != api.OK {
		return err
	}
	if lines[at].Low > lines[at].High {
		return api.ErrRange
	}
	return api.OK
}

func inputError(lines []book.Line, at int) api.Errno {
	name := lines[at].Name
	earlier := lines[:at]
	if hasLine(earlier, book.Num, name) || hasLine(earlier, book.Flag, name) || isConclusion(lines, name) {
		return api.ErrName
	}
	return api.OK
}

func ruleError(lines []book.Line, at int) api.Errno {
	rule := lines[at]
	if hasLine(lines[:at], book.Rule, rule.Name) {
		return api.ErrName
	}
	for _, part := range rule.Sum {
		if part.Name != "" && !isSummand(lines, part.Name) {
			return api.ErrName
		}
	}
	for _, node := range rule.Guard.Nodes {
		if !isNodeKnown(lines, node) {
			return api.ErrName
		}
	}
	return api.OK
}

func overError(lines []book.Line, over book.Line) api.Errno {
	upper := findRule(lines, over.Name)
	lower := findRule(lines, over.Lower)
	if upper == len(lines) || lower == len(lines) {
		return api.ErrName
	}
	if over.Name == over.Lower || lines[upper].Concludes != lines[lower].Concludes {
		return api.ErrPair
	}
	return api.OK
}

// isSummand tells whether a name may stand in a sum.
func isSummand(lines []book.Line, name string) bool {
	return hasLine(lines, book.Num, name) || isConclusion(lines, name)
}

// isNodeKnown tells whether the names in a node of a guard are of the kinds
// that belong there.
func isNodeKnown(lines []book.Line, node book.Node) bool {
	switch node.Kind {
	case book.Has:
		return isConclusion(lines, node.Name)
	case book.IsFlag:
		return hasLine(lines, book.Flag, node.Name)
	case book.Compare:
		other := node.Other == "" || hasLine(lines, book.Num, node.Other)
		return other && hasLine(lines, book.Num, node.Name)
	}
	return true
}

// hasLine tells whether there is a line of a kind with a name.
func hasLine(lines []book.Line, kind int, name string) bool {
	for _, line := range lines {
		if line.Kind == kind && line.Name == name {
			return true
		}
	}
	return false
}

func isConclusion(lines []book.Line, name string) bool {
	for _, line := range lines {
		if line.Kind == book.Rule && line.Concludes == name {
			return true
		}
	}
	return false
}

// findRule tells the number of the first rule line of a label, or the number of
// lines if there is none.
func findRule(lines []book.Line, label string) int {
	for i, line := range lines {
		if line.Kind == book.Rule && line.Name == label {
			return i
		}
	}
	return len(lines)
}
