// Package check tells whether the lines of a rulebook keep to its limits, and
// whether their names fit together.
package check

import (
	"statute/api"
	"statute/book"
	"statute/links"
)

// Fault is an error, or OK, and its place: the number of a line, or which kind
// of ring there is.
type Fault struct {
	Err   api.Errno
	Place int
}

// Lines tells the first fault of a rulebook's lines.
func Lines(lines []book.Line) Fault {
	for i := range lines {
		if isTooMany(lines, i) {
			return Fault{api.ErrMany, i}
		}
	}
	for i := range lines {
		err := lineError(lines, i)
		if err != api.OK {
			return Fault{err, i}
		}
	}
	naming := links.Naming(lines)
	if naming.HasRing() {
		return Fault{api.ErrRing, 0}
	}
	order := links.Order(lines)
	if order.HasRing() {
		return Fault{api.ErrRing, 1}
	}
	return Fault{api.OK, 0}
}
