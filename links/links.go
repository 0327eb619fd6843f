// Package links tells which conclusion of a rulebook names which, which rule is
// put over which, and what follows from that alone: rings and levels.
package links

import (
	"statute/api"
	"statute/book"
	"statute/graph"
)

// Naming has an arrow from each conclusion to those that it names. The points
// are the conclusions in their order.
func Naming(lines []book.Line) graph.Graph {
	names := conclusions(lines)
	found := graph.Graph{}
	for _, line := range lines {
		if line.Kind != book.Rule {
			continue
		}
		from := find(names, line.Concludes)
		for _, part := range line.Sum {
			to := find(names, part.Name)
			found.Add(from, to)
		}
		for _, node := range line.Guard.Nodes {
			if node.Kind == book.Has {
				to := find(names, node.Name)
				found.Add(from, to)
			}
		}
	}
	return found
}

// Order has an arrow from each rule to those that it is put over. The points
// are the rules in the order of the text.
func Order(lines []book.Line) graph.Graph {
	labels := ruleLabels(lines)
	found := graph.Graph{}
	for _, line := range lines {
		if line.Kind == book.Over {
			upper := find(labels, line.Name)
			lower := find(labels, line.Lower)
			found.Add(upper, lower)
		}
	}
	return found
}

// Above has an arrow from each rule to those that it stands above.
func Above(lines []book.Line) graph.Graph {
	order := Order(lines)
	return order.Chains()
}

// Ring tells a ring of conclusions, if there is one; else one of rules, or
// nothing.
func Ring(lines []book.Line) []string {
	naming := Naming(lines)
	points := naming.Ring()
	if len(points) > 0 {
		return pick(conclusions(lines), points)
	}
	order := Order(lines)
	points = order.Ring()
	return pick(ruleLabels(lines), points)
}

// Levels tells the conclusions in their order, each with its level. There is no
// ring of them.
func Levels(lines []book.Line) []api.Level {
	naming := Naming(lines)
	levels := naming.Levels()
	found := []api.Level{}
	for i, name := range conclusions(lines) {
		if i < len(levels) {
			found = append(found, api.Level{Name: name, Level: levels[i]})
		}
	}
	return found
}

// conclusions tells the conclusions in the order of their first rules.
func conclusions(lines []book.Line) []string {
	names := []string{}
	for _, line := range lines {
		if line.Kind == book.Rule && find(names, line.Concludes) < 0 {
			names = append(names, line.Concludes)
		}
	}
	return names
}

func ruleLabels(lines []book.Line) []string {
	labels := []string{}
	for _, line := range lines {
		if line.Kind == book.Rule {
			labels = append(labels, line.Name)
		}
	}
	return labels
}

// find tells the place of a name, or -1, which is no point of a graph.
func find(names []string, name string) int {
	for i, other := range names {
		if other == name {
			return i
		}
	}
	return -1
}

// pick tells the names of points.
func pick(names []string, points []int) []string {
	picked := []string{}
	for _, at := range points {
		if 0 <= at && at < len(names) {
			picked = append(picked, names[at])
		}
	}
	return picked
}
