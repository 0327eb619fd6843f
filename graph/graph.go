// Package graph has arrows between few points: which conclusion names which,
// which rule is put over which.
package graph

import "statute/api"

// size is the number of points, from 0 on: there are no more conclusions than
// rules.
const size = api.MaxRules

// Graph has an arrow from a point to another (or to itself), or has none.
type Graph struct {
	arrows [size][size]bool
}

// Add adds an arrow; one from or to no point is none.
func (g *Graph) Add(from int, to int) {
	if isPoint(from) && isPoint(to) {
		g.arrows[from][to] = true
	}
}

func isPoint(at int) bool { return 0 <= at && at < size }

// Has tells whether there is an arrow; from or to no point there is none.
func (g *Graph) Has(from int, to int) bool {
	return isPoint(from) && isPoint(to) && g.arrows[from][to]
}

// Chains tells the graph that has an arrow wherever this one has a chain of
// arrows, one or more.
func (g *Graph) Chains() Graph {
	found := *g
	for middle := 0; middle < size; middle++ {
		for from := 0; from < size; from++ {
			for to := 0; to < size; to++ {
				if found.arrows[from][middle] && found.arrows[middle][to] {
					found.arrows[from][to] = true
				}
			}
		}
	}
	return found
}

// HasRing tells whether a chain of arrows leads from a point back to it.
func (g *Graph) HasRing() bool {
	chains := g.Chains()
	return chains.firstLoop() < size
}

// firstLoop tells the first point with an arrow to itself, or size.
func (g *Graph) firstLoop() int {
	for at := 0; at < size; at++ {
		if g.arrows[at][at] {
			return at
		}
	}
	return size
}

// Ring tells the points of a ring, none twice, each with an arrow to the next
// one and the last with one to the first; or nothing, if there is no ring.
func (g *Graph) Ring() []int {
	chains := g.Chains()
	at := chains.firstLoop()
	if at == size {
		return []int{}
	}
	// From each point the walk goes on in one way alone, so after as many steps
	// as there are points it only goes round.
	for step := 0; step < size; step++ {
		at = g.nextInRing(chains, at)
	}
	ring := []int{at}
	next := g.nextInRing(chains, at)
	for next != at && len(ring) < size {
		ring = append(ring, next)
		next = g.nextInRing(chains, next)
	}
	return ring
}

// nextInRing tells the first point to which an arrow leads from this one, and
// from which a chain leads back. A point of a ring has one.
func (g *Graph) nextInRing(chains Graph, at int) int {
	for next := 0; next < size; next++ {
		if g.arrows[at][next] && chains.arrows[next][at] {
			return next
		}
	}
	return at
}

// Levels tells the level of each point of a graph that has no ring: 0, if no
// arrow leads from it; else one more than the highest level of those to which
// its arrows lead.
func (g *Graph) Levels() [size]int {
	levels := [size]int{}
	// Each round sets one level more aright, beginning with 1, and with no ring
	// the highest one is below size.
	for round := 1; round < size; round++ {
		for at := 0; at < size; at++ {
			levels[at] = g.levelAbove(levels, at)
		}
	}
	return levels
}

func (g *Graph) levelAbove(levels [size]int, at int) int {
	level := 0
	for to := 0; to < size; to++ {
		if g.arrows[at][to] && levels[to] >= level {
			level = levels[to] + 1
		}
	}
	return level
}
