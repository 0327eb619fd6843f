package tidy

import "statute/book"

// node writes a node of a guard. It ends, for a node stands behind those that
// it is made of.
func (w *writer) node(nodes []book.Node, at int) {
	node := nodes[at]
	switch node.Kind {
	case book.Or:
		w.node(nodes, node.Left)
		w.put("or")
		w.node(nodes, node.Right)
	case book.And:
		w.side(nodes, node.Left)
		w.put("and")
		w.side(nodes, node.Right)
	case book.Not:
		w.put("not")
		w.negated(nodes, node.Left)
	default:
		w.test(node)
	}
}

// side writes a side of an "and".
func (w *writer) side(nodes []book.Node, at int) {
	if nodes[at].Kind == book.Or {
		w.bracketed(nodes, at)
		return
	}
	w.node(nodes, at)
}

// negated writes what stands behind a "not".
func (w *writer) negated(nodes []book.Node, at int) {
	kind := nodes[at].Kind
	if kind == book.Or || kind == book.And {
		w.bracketed(nodes, at)
		return
	}
	w.node(nodes, at)
}

func (w *writer) bracketed(nodes []book.Node, at int) {
	w.put("(")
	w.node(nodes, at)
	w.put(")")
}

func (w *writer) test(test book.Node) {
	switch test.Kind {
	case book.Always:
		w.put("always")
	case book.Has:
		w.put("has")
		w.put(test.Name)
	case book.IsFlag:
		w.put(test.Name)
	case book.Compare:
		w.put(test.Name)
		w.put(test.Mark)
		w.operand(test)
	}
}

// operand writes what stands behind the mark of a comparison.
func (w *writer) operand(test book.Node) {
	if test.Other == "" {
		w.putNumber(test.Number)
		return
	}
	w.put(test.Other)
}
