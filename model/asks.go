package model

import "statute/book"

// Needs tells whether a conclusion, by its place, is in the rule's sum.
func (r Rule) Needs(conclusion int) bool {
	for _, p := range r.sum {
		if p.kind == ofConclusion && p.place == conclusion {
			return true
		}
	}
	return false
}

// AsksHas tells whether the rule's guard asks if a conclusion, by its place, has
// a value.
func (r Rule) AsksHas(conclusion int) bool {
	for _, n := range r.guard {
		if n.kind == book.Has && n.place == conclusion {
			return true
		}
	}
	return false
}

// AsksInput tells whether the rule's guard asks about an input, by its place.
func (r Rule) AsksInput(input int) bool {
	for _, n := range r.guard {
		switch n.kind {
		case book.IsFlag:
			if n.place == input {
				return true
			}
		case book.Compare:
			if n.place == input || (n.twoNums && n.other == input) {
				return true
			}
		}
	}
	return false
}

// Bounds tells the numbers with which the rule's guard compares a num, by its
// place.
func (r Rule) Bounds(input int) []int {
	bounds := []int{}
	for _, n := range r.guard {
		if n.kind == book.Compare && !n.twoNums && n.place == input {
			bounds = append(bounds, n.number)
		}
	}
	return bounds
}
