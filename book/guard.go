package book

import "statute/token"

// The kinds of nodes of a guard. The last four are tests.
const (
	Or      = 1
	And     = 2
	Not     = 3
	Always  = 4
	Has     = 5
	IsFlag  = 6
	Compare = 7
)

// Guard is a guard as a tree. Brackets leave no node: they only shape it.
type Guard struct {
	Nodes []Node // each behind those that it is made of
	Root  int
	Tests int // how many there are
	Depth int // the greatest one of a test
}

// Node is a node of a guard. Which fields it uses depends on its kind.
type Node struct {
	Kind   int
	Left   int    // of Or, And, Not: the place of a node
	Right  int    // of Or, And: likewise
	Name   string // of Has, IsFlag, Compare
	Mark   string // of Compare
	Other  string // of Compare: the name behind the mark, empty if it is a number
	Number int    // of Compare: the number behind the mark
}

func (g *Guard) add(node Node) int {
	g.Nodes = append(g.Nodes, node)
	return len(g.Nodes) - 1
}

func (r *reader) guard() Guard {
	guard := Guard{}
	root := r.alternatives(&guard, 0)
	guard.Root = root
	return guard
}

// alternatives reads what the document calls a guard, inside so many brackets
// and nots, and tells the place of its node; terms and fact do likewise.
func (r *reader) alternatives(guard *Guard, depth int) int {
	left := r.terms(guard, depth)
	for r.skip("or") {
		right := r.terms(guard, depth)
		left = guard.add(Node{Kind: Or, Left: left, Right: right})
	}
	return left
}

func (r *reader) terms(guard *Guard, depth int) int {
	left := r.fact(guard, depth)
	for r.skip("and") {
		right := r.fact(guard, depth)
		left = guard.add(Node{Kind: And, Left: left, Right: right})
	}
	return left
}

func (r *reader) fact(guard *Guard, depth int) int {
	if r.skip("not") {
		inner := r.fact(guard, depth+1)
		return guard.add(Node{Kind: Not, Left: inner})
	}
	if r.skip("(") {
		inner := r.alternatives(guard, depth+1)
		r.want(")")
		return inner
	}
	guard.Tests++
	if depth > guard.Depth {
		guard.Depth = depth
	}
	node := r.test()
	return guard.add(node)
}

func (r *reader) test() Node {
	if r.skip("always") {
		return Node{Kind: Always}
	}
	if r.skip("has") {
		name := r.name()
		return Node{Kind: Has, Name: name}
	}
	node := Node{Kind: IsFlag}
	node.Name = r.name()
	mark := r.comparison()
	if mark == "" {
		return node
	}
	node.Kind = Compare
	node.Mark = mark
	if r.next(token.Number) {
		node.Number = r.number()
	} else {
		node.Other = r.name()
	}
	return node
}

// comparison goes past a mark that compares, and tells it, or nothing.
func (r *reader) comparison() string {
	text := r.tokens[r.at].Text
	switch text {
	case "<", "<=", "=", "!=", ">=", ">":
		if r.skip(text) {
			return text
		}
	}
	return ""
}
