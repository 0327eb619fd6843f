package graph

import (
	"math/rand"
	"testing"
)

func TestHasRing(t *testing.T) {
	for _, c := range []struct {
		arrows [][2]int
		want   bool
	}{
		{nil, false},
		{[][2]int{{0, 0}}, true},
		{[][2]int{{7, 7}}, true},
		{[][2]int{{0, 1}, {0, 1}}, false},
		{[][2]int{{0, 1}, {1, 0}}, true},
		{[][2]int{{0, 1}, {0, 2}, {1, 3}, {2, 3}}, false},
		{[][2]int{{7, 6}, {6, 5}, {5, 4}, {4, 3}, {3, 2}, {2, 1}, {1, 0}}, false},
		{[][2]int{{7, 6}, {6, 5}, {5, 4}, {4, 3}, {3, 2}, {2, 1}, {1, 0}, {0, 7}}, true},
		{[][2]int{{0, 5}, {5, 3}, {3, 6}, {6, 5}}, true},
		{[][2]int{{-1, -1}, {8, 8}, {-1, 0}, {0, -1}, {0, 8}, {8, 0}}, false},
	} {
		g := Graph{}
		for _, a := range c.arrows {
			g.Add(a[0], a[1])
		}
		before := g
		if got := g.HasRing(); got != c.want {
			t.Errorf("HasRing of %v = %v", c.arrows, got)
		}
		if g != before {
			t.Errorf("HasRing of %v changed the graph", c.arrows)
		}
	}
}

// TestAllSmall compares HasRing with walks of as many steps as there are points,
// at all graphs of three points.
func TestAllSmall(t *testing.T) {
	for bits := 0; bits < 512; bits++ {
		g := Graph{}
		for i := 0; i < 9; i++ {
			if bits>>i&1 == 1 {
				g.Add(i/3, i%3)
			}
		}
		walks := [3]bool{true, true, true}
		for step := 0; step < 3; step++ {
			next := [3]bool{}
			for i := 0; i < 9; i++ {
				if bits>>i&1 == 1 && walks[i/3] {
					next[i%3] = true
				}
			}
			walks = next
		}
		if want := walks != [3]bool{}; g.HasRing() != want {
			t.Errorf("HasRing of the graph %09b = %v", bits, !want)
		}
	}
}

// isRing tells whether points are a ring of a graph.
func isRing(g Graph, points []int) bool {
	seen := [size]bool{}
	for i, at := range points {
		if at < 0 || at >= size || seen[at] || !g.arrows[at][points[(i+1)%len(points)]] {
			return false
		}
		seen[at] = true
	}
	return len(points) > 0
}

// level tells the longest chain from a point of a graph that has no ring.
func level(g Graph, at int) int {
	most := 0
	for to := range g.arrows[at] {
		if g.arrows[at][to] {
			most = max(most, 1+level(g, to))
		}
	}
	return most
}

func look(t *testing.T, g Graph) {
	t.Helper()
	ring, before := g.Ring(), g
	if g.HasRing() != (len(ring) > 0) || g.HasRing() && !isRing(g, ring) {
		t.Errorf("Ring of %v = %v", g.arrows, ring)
	}
	levels := g.Levels() // it ends at rings too
	for at := 0; at < size && len(ring) == 0; at++ {
		if want := level(g, at); levels[at] != want {
			t.Errorf("Levels of %v = %v, but %d has %d", g.arrows, levels, at, want)
		}
	}
	if g != before {
		t.Errorf("Ring or Levels changed the graph %v", before.arrows)
	}
}

// TestRingAndLevels looks at all graphs of the first four points, the same of
// every second point, and some of all points.
func TestRingAndLevels(t *testing.T) {
	for bits := 0; bits < 1<<16; bits++ {
		first, second := Graph{}, Graph{}
		for i := 0; i < 16; i++ {
			if bits>>i&1 == 1 {
				first.Add(i/4, i%4)
				second.Add(i/4*2+1, i%4*2+1)
			}
		}
		look(t, first)
		look(t, second)
	}
	source := rand.New(rand.NewSource(1))
	for i := 0; i < 20000; i++ {
		g, order := Graph{}, source.Perm(size)
		for arrow := source.Intn(20); arrow > 0; arrow-- {
			from, to := source.Intn(size), source.Intn(size)
			if i%2 == 0 && order[from] < order[to] {
				from, to = to, from
			}
			if i%2 == 1 || from != to {
				g.Add(from, to)
			}
		}
		look(t, g)
	}
}

// TestChains compares Chains with walks of one to eight steps, at made graphs;
// there is no arrow at places that are no points.
func TestChains(t *testing.T) {
	source := rand.New(rand.NewSource(6))
	for i := 0; i < 300; i++ {
		g := Graph{}
		for arrow := source.Intn(14); arrow > 0; arrow-- {
			g.Add(source.Intn(8), source.Intn(8))
		}
		chains := g.Chains()
		for from := -1; from <= 8; from++ {
			reached := map[int]bool{}
			last := map[int]bool{from: true}
			for step := 0; step < 8; step++ {
				next := map[int]bool{}
				for at := range last {
					for to := 0; to < 8; to++ {
						if g.Has(at, to) {
							next[to] = true
							reached[to] = true
						}
					}
				}
				last = next
			}
			for to := -1; to <= 8; to++ {
				if chains.Has(from, to) != reached[to] {
					t.Errorf("%v: a chain from %d to %d: %v", g, from, to, !reached[to])
				}
			}
		}
	}
}
