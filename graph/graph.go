// Package graph has arrows between few points: which conclusion names which,
// which rule is put over which.
package graph

import "statute/api"

// size is the number of points, from 0 on: there are no more conclusions than
// rules.
const size = api.MaxRules

// Graph has an arrow from a point to another (or to itself), or has none.
type Graph struct {
	arrows [size][size]bool
}

// Add adds an arrow; one from or to no point is none.
func (g *Graph) Add(from int, to int) {
	if isPoint(from) && isPoint(to) {
		g.arrows[from][to] = true
	}
}

func isPoint(at int) bool { return 0 <= at && at < size }

// chains tells the graph that has an arrow wherever this one has a chain of
// arrows, one or more.
func (g *Graph) chains() Graph {
	found := *g
	for middle := 0; middle < size; middle++ {
		for from := 0; from < size; from++ {
			for to := 0; to < size; to++ {
				if found.arrows[from][middle] && found.arrows[middle][to] {
					found.arrows[from][to] = true
				}
			}
		}
	}
	return found
}

// HasRing tells whether a chain of arrows leads from a point back to it.
func (g *Graph) HasRing() bool {
	chains := g.chains()
	for at := 0; at < size; at++ {
		if chains.arrows[at][at] {
			return true
		}
	}
	return false
}
