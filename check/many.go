package check

import (
	"statute/api"
	"statute/book"
)

// isTooMany tells whether a line is one too many of its kind, or has too much
// in it.
func isTooMany(lines []book.Line, at int) bool {
	line := lines[at]
	if countKind(lines[:at], line.Kind) >= limit(line.Kind) {
		return true
	}
	if line.Kind != book.Rule {
		return false
	}
	return line.Guard.Tests > api.MaxTests || line.Guard.Depth > api.MaxDepth || isSumTooGreat(line.Sum)
}

func countKind(lines []book.Line, kind int) int {
	count := 0
	for _, line := range lines {
		if line.Kind == kind {
			count++
		}
	}
	return count
}

// limit tells how many lines of a kind there may be.
func limit(kind int) int {
	switch kind {
	case book.Num:
		return api.MaxNums
	case book.Flag:
		return api.MaxFlags
	case book.Rule:
		return api.MaxRules
	case book.Over:
		return api.MaxOvers
	}
	return 0
}

func isSumTooGreat(parts []book.Part) bool {
	if len(parts) > api.MaxParts {
		return true
	}
	for _, part := range parts {
		if part.Starred && part.Number > api.MaxFactor {
			return true
		}
	}
	return false
}
