package graph

import "testing"

func TestHasRing(t *testing.T) {
	for _, c := range []struct {
		arrows [][2]int
		want   bool
	}{
		{nil, false},
		{[][2]int{{0, 0}}, true},
		{[][2]int{{7, 7}}, true},
		{[][2]int{{0, 1}, {0, 1}}, false},
		{[][2]int{{0, 1}, {1, 0}}, true},
		{[][2]int{{0, 1}, {0, 2}, {1, 3}, {2, 3}}, false},
		{[][2]int{{7, 6}, {6, 5}, {5, 4}, {4, 3}, {3, 2}, {2, 1}, {1, 0}}, false},
		{[][2]int{{7, 6}, {6, 5}, {5, 4}, {4, 3}, {3, 2}, {2, 1}, {1, 0}, {0, 7}}, true},
		{[][2]int{{0, 5}, {5, 3}, {3, 6}, {6, 5}}, true},
		{[][2]int{{-1, -1}, {8, 8}, {-1, 0}, {0, -1}, {0, 8}, {8, 0}}, false},
	} {
		g := Graph{}
		for _, a := range c.arrows {
			g.Add(a[0], a[1])
		}
		before := g
		if got := g.HasRing(); got != c.want {
			t.Errorf("HasRing of %v = %v", c.arrows, got)
		}
		if g != before {
			t.Errorf("HasRing of %v changed the graph", c.arrows)
		}
	}
}

// TestAllSmall compares HasRing with walks of as many steps as there are points,
// at all graphs of three points.
func TestAllSmall(t *testing.T) {
	for bits := 0; bits < 512; bits++ {
		g := Graph{}
		for i := 0; i < 9; i++ {
			if bits>>i&1 == 1 {
				g.Add(i/3, i%3)
			}
		}
		walks := [3]bool{true, true, true}
		for step := 0; step < 3; step++ {
			next := [3]bool{}
			for i := 0; i < 9; i++ {
				if bits>>i&1 == 1 && walks[i/3] {
					next[i%3] = true
				}
			}
			walks = next
		}
		if want := walks != [3]bool{}; g.HasRing() != want {
			t.Errorf("HasRing of the graph %09b = %v", bits, !want)
		}
	}
}
