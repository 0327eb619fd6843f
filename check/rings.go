package check

import (
	"statute/book"
	"statute/graph"
)

// conclusionGraph has an arrow from each conclusion to those that it names. The
// points are the conclusions in their order.
func conclusionGraph(lines []book.Line) graph.Graph {
	names := conclusions(lines)
	found := graph.Graph{}
	for _, line := range lines {
		if line.Kind != book.Rule {
			continue
		}
		from := find(names, line.Concludes)
		for _, part := range line.Sum {
			to := find(names, part.Name)
			found.Add(from, to)
		}
		for _, node := range line.Guard.Nodes {
			if node.Kind == book.Has {
				to := find(names, node.Name)
				found.Add(from, to)
			}
		}
	}
	return found
}

// ruleGraph has an arrow from each rule to those that it is put over. The points
// are the rules in the order of the text.
func ruleGraph(lines []book.Line) graph.Graph {
	labels := ruleLabels(lines)
	found := graph.Graph{}
	for _, line := range lines {
		if line.Kind == book.Over {
			upper := find(labels, line.Name)
			lower := find(labels, line.Lower)
			found.Add(upper, lower)
		}
	}
	return found
}

// conclusions tells the conclusions in the order of their first rules.
func conclusions(lines []book.Line) []string {
	names := []string{}
	for _, line := range lines {
		if line.Kind == book.Rule && find(names, line.Concludes) < 0 {
			names = append(names, line.Concludes)
		}
	}
	return names
}

func ruleLabels(lines []book.Line) []string {
	labels := []string{}
	for _, line := range lines {
		if line.Kind == book.Rule {
			labels = append(labels, line.Name)
		}
	}
	return labels
}

// find tells the place of a name, or -1, which is no point of a graph.
func find(names []string, name string) int {
	for i, other := range names {
		if other == name {
			return i
		}
	}
	return -1
}
