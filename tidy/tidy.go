// Package tidy writes the lines of a rulebook anew.
package tidy

import (
	"strconv"

	"statute/book"
)

// Text writes lines, their guards with no more brackets than they need.
func Text(lines []book.Line) string {
	w := writer{}
	for _, line := range lines {
		w.line(line)
	}
	return string(w.out)
}

type writer struct {
	out    []byte
	inLine bool // a token of this line has been written
}

func (w *writer) put(text string) {
	if w.inLine {
		w.out = append(w.out, ' ')
	}
	w.out = append(w.out, text...)
	w.inLine = true
}

func (w *writer) putNumber(number int) { w.put(strconv.Itoa(number)) }

func (w *writer) endLine() {
	w.out = append(w.out, ';', '\n')
	w.inLine = false
}

func (w *writer) line(line book.Line) {
	switch line.Kind {
	case book.Num:
		w.put("num")
		w.put(line.Name)
		w.putNumber(line.Low)
		w.put("..")
		w.putNumber(line.High)
	case book.Flag:
		w.put("flag")
		w.put(line.Name)
	case book.Rule:
		w.put("rule")
		w.put(line.Name)
		w.put(":")
		w.put(line.Concludes)
		w.put("=")
		w.sum(line.Sum)
		w.put("when")
		w.node(line.Guard.Nodes, line.Guard.Root)
	case book.Over:
		w.put("over")
		w.put(line.Name)
		w.put(line.Lower)
	}
	w.endLine()
}

func (w *writer) sum(parts []book.Part) {
	for i, part := range parts {
		if part.Minus {
			w.put("-")
		} else if i > 0 {
			w.put("+")
		}
		w.part(part)
	}
}

func (w *writer) part(part book.Part) {
	if part.Starred {
		w.putNumber(part.Number)
		w.put("*")
		w.put(part.Name)
		return
	}
	if part.Name == "" {
		w.putNumber(part.Number)
		return
	}
	w.put(part.Name)
}
