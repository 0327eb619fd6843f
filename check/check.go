// Package check tells whether the lines of a rulebook keep to its limits, and
// whether their names fit together.
package check

import (
	"statute/api"
	"statute/book"
)

// Lines tells the first error of a rulebook's lines, and its place: the number
// of a line, or which kind of ring there is.
func Lines(lines []book.Line) (api.Errno, int) {
	for i := range lines {
		if isTooMany(lines, i) {
			return api.ErrMany, i
		}
	}
	for i := range lines {
		err := lineError(lines, i)
		if err != api.OK {
			return err, i
		}
	}
	conclusions := conclusionGraph(lines)
	if conclusions.HasRing() {
		return api.ErrRing, 0
	}
	rules := ruleGraph(lines)
	if rules.HasRing() {
		return api.ErrRing, 1
	}
	return api.OK, 0
}
