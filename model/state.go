package model

import "statute/book"

// State is what a rule asks about: the inputs, and which conclusions have a
// value. A list that is too short reads as if it went on with 0, or false.
type State struct {
	Inputs []int  // a num's number; 1 for a flag's yes, 0 for its no
	Has    []bool // of each conclusion
	Values []int  // of each conclusion that has one
}

// Applies tells whether the rule's guard holds and every conclusion in its sum
// has a value.
func (r Rule) Applies(s State) bool {
	for _, p := range r.sum {
		if p.kind == ofConclusion && !isTrue(s.Has, p.place) {
			return false
		}
	}
	holds := make([]bool, len(r.guard))
	for i, n := range r.guard {
		now := n.holds(s, holds)
		holds[i] = now
	}
	return isTrue(holds, r.root)
}

// Sum tells what the rule's sum comes to, if it applies.
func (r Rule) Sum(s State) int {
	total := 0
	for _, p := range r.sum {
		switch p.kind {
		case plain:
			total += p.number
		case ofInput:
			total += p.number * number(s.Inputs, p.place)
		case ofConclusion:
			total += p.number * number(s.Values, p.place)
		}
	}
	return total
}

// holds knows of each earlier node of the guard whether it holds.
func (n node) holds(s State, earlier []bool) bool {
	switch n.kind {
	case book.Or:
		return isTrue(earlier, n.left) || isTrue(earlier, n.right)
	case book.And:
		return isTrue(earlier, n.left) && isTrue(earlier, n.right)
	case book.Not:
		return !isTrue(earlier, n.left)
	case book.Always:
		return true
	case book.Has:
		return isTrue(s.Has, n.place)
	case book.IsFlag:
		return number(s.Inputs, n.place) == 1
	case book.Compare:
		return n.compares(s)
	}
	return false
}

func (n node) compares(s State) bool {
	first := number(s.Inputs, n.place)
	second := n.number
	if n.twoNums {
		second = number(s.Inputs, n.other)
	}
	if first < second {
		return n.less
	}
	if first > second {
		return n.more
	}
	return n.equal
}

func isTrue(list []bool, at int) bool { return 0 <= at && at < len(list) && list[at] }

func number(list []int, at int) int {
	if 0 <= at && at < len(list) {
		return list[at]
	}
	return 0
}
