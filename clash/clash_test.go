package clash

import (
	"testing"

	"statute/api"
	"statute/book"
	"statute/model"
)

// TestSplit: the parts of a zone follow each other, have all its numbers, and each
// is below, at or above the bound.
func TestSplit(t *testing.T) {
	for low := 0; low < 5; low++ {
		for high := low; high < 5; high++ {
			for bound := 0; bound < 5; bound++ {
				next := low
				for _, part := range (zone{low, high}).split(bound) {
					if part.low != next || part.high < part.low || part.low < bound && part.high >= bound || part.low == bound && part.high > bound {
						t.Errorf("%d to %d split at %d: %v", low, high, bound, part)
					}
					next = part.high + 1
				}
				if next != high+1 {
					t.Errorf("%d to %d split at %d ends at %d", low, high, bound, next-1)
				}
			}
		}
	}
}

func TestZonesOf(t *testing.T) {
	for _, c := range []struct {
		low, high  int
		one, other []int
		want       []zone
	}{
		{0, 9999, nil, nil, []zone{{0, 9999}}},
		{7, 7, []int{7}, []int{7, 6, 8}, []zone{{7, 7}}},
		{0, 9999, []int{0, 9999}, []int{0}, []zone{{0, 0}, {1, 9998}, {9999, 9999}}},
		{3, 9, []int{2, 10}, []int{5, 4}, []zone{{3, 3}, {4, 4}, {5, 5}, {6, 9}}},
		{3, 9, []int{8}, []int{5}, []zone{{3, 4}, {5, 5}, {6, 7}, {8, 8}, {9, 9}}},
	} {
		got := zonesOf(model.Input{Low: c.low, High: c.high}, c.one, c.other)
		same := len(got) == len(c.want)
		for i := 0; same && i < len(got); i++ {
			same = got[i] == c.want[i]
		}
		if !same {
			t.Errorf("zones of %d to %d at %v, %v: %v, want %v", c.low, c.high, c.one, c.other, got, c.want)
		}
	}
}

// isOrdered tells whether numbers are in their zones and in the order of the ranks.
func isOrdered(zones [3]zone, ranks [3]int, numbers [3]int) bool {
	for i, n := range numbers {
		if n < zones[i].low || n > zones[i].high {
			return false
		}
		for j, m := range numbers {
			if (ranks[i] < ranks[j]) != (n < m) {
				return false
			}
		}
	}
	return true
}

// hasGap tells whether a rank is left out below another.
func hasGap(ranks [3]int) bool {
	used := [4]bool{}
	for _, rank := range ranks {
		used[rank] = true
	}
	return !used[0] || !used[1] && used[2]
}

// TestSetNumbers goes through all zones of the numbers 0 to 3 and all ranks.
func TestSetNumbers(t *testing.T) {
	zones := []zone{}
	for low := 0; low < 4; low++ {
		for high := low; high < 4; high++ {
			zones = append(zones, zone{low, high})
		}
	}
	for i := 0; i < 1000*27; i++ {
		three := [3]zone{zones[i%10], zones[i/10%10], zones[i/100%10]}
		ranks := [3]int{i / 1000 % 3, i / 3000 % 3, i / 9000}
		want := false
		for k := 0; k < 64; k++ {
			want = want || isOrdered(three, ranks, [3]int{k % 4, k / 4 % 4, k / 16})
		}
		want = want && !hasGap(ranks)
		s := search{state: model.State{Inputs: make([]int, 3)}}
		for at := range three {
			s.nums = append(s.nums, num{input: at, zone: three[at], rank: ranks[at]})
		}
		got := s.setNumbers()
		if got != want || got && !isOrdered(three, ranks, [3]int(s.state.Inputs)) {
			t.Errorf("zones %v, ranks %v: %v, %v, want %v", three, ranks, got, s.state.Inputs, want)
		}
	}
}

// TestAllOrders: the ranks that are tried leave out no order of three numbers.
func TestAllOrders(t *testing.T) {
	for _, c := range []struct{ guard, order string }{
		{"x<y and y<z", "x y z"}, {"x<z and z<y", "x z y"}, {"y<x and x<z", "y x z"}, {"y<z and z<x", "y z x"}, {"z<x and x<y", "z x y"}, {"z<y and y<x", "z y x"},
		{"x=y and y<z", "x=y z"}, {"x=y and y>z", "z x=y"}, {"x=z and y<z", "y x=z"}, {"x=z and y>z", "x=z y"}, {"y=z and x<z", "x y=z"}, {"y=z and x>z", "y=z x"}, {"x=y and y=z", "x=y=z"},
	} {
		reading := book.Read("num x 0..2;num y 0..2;num z 0..2;rule r:c=1 when " + c.guard + ";rule s:c=2 when always;")
		if reading.Err != api.OK {
			t.Fatalf("the guard %q is read with the error %d", c.guard, reading.Err)
		}
		m := model.Make(reading.Lines)
		found := Find(&m)
		if len(found.Labels) != 2 || found.Labels[0] != "r" || found.Labels[1] != "s" || len(found.Setting) != 4 {
			t.Errorf("no setting of the order %s: %v", c.order, found)
		}
	}
}
