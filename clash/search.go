package clash

import (
	"statute/api"
	"statute/model"
)

// search looks for a setting under which two rules would apply.
//
// There are too many settings to try them all. But the guards compare nums with
// numbers and with each other, no more: two settings are alike to them that have
// each num in the same zone, the nums in the same order, and the same flags and
// conclusions. So one setting of each such kind is tried.
type search struct {
	earlier  model.Rule
	later    model.Rule
	nums     []num
	switches []toggle
	state    model.State // the setting that is tried
}

// num is a num that a guard compares, on its way to a number.
type num struct {
	input int
	zones []zone
	zone  zone // the one that is tried
	rank  int  // nums of a lower rank are less, of the same rank equal
}

// toggle is a flag or a conclusion, by its place, that a guard asks about.
type toggle struct {
	isFlag bool
	place  int
}

func newSearch(m *model.Model, earlier model.Rule, later model.Rule) search {
	s := search{earlier: earlier, later: later}
	s.state = model.State{Inputs: make([]int, len(m.Inputs)), Has: make([]bool, len(m.Conclusions))}
	for i, input := range m.Inputs {
		s.state.Inputs[i] = input.Low
		if !earlier.AsksInput(i) && !later.AsksInput(i) {
			continue
		}
		if input.IsFlag {
			s.switches = append(s.switches, toggle{isFlag: true, place: i})
			continue
		}
		earlierBounds := earlier.Bounds(i)
		laterBounds := later.Bounds(i)
		zones := zonesOf(input, earlierBounds, laterBounds)
		s.nums = append(s.nums, num{input: i, zones: zones})
	}
	for i := range m.Conclusions {
		if earlier.Needs(i) || later.Needs(i) {
			s.state.Has[i] = true
			continue
		}
		if earlier.AsksHas(i) || later.AsksHas(i) {
			s.switches = append(s.switches, toggle{place: i})
		}
	}
	return s
}

// chooseZones tries the zones of the nums from a place on, and all that is chosen
// behind them. It tells whether a setting was found, which is then the state;
// chooseRanks and chooseSwitches do likewise.
func (s *search) chooseZones(at int) bool {
	if at >= len(s.nums) {
		return s.chooseRanks(0)
	}
	for _, z := range s.nums[at].zones {
		s.nums[at].zone = z
		if s.chooseZones(at + 1) {
			return true
		}
	}
	return false
}

func (s *search) chooseRanks(at int) bool {
	if at >= len(s.nums) {
		if !s.setNumbers() {
			return false
		}
		return s.chooseSwitches(0)
	}
	for rank := range s.nums {
		s.nums[at].rank = rank
		if s.chooseRanks(at + 1) {
			return true
		}
	}
	return false
}

func (s *search) chooseSwitches(at int) bool {
	if at >= len(s.switches) {
		return s.bothApply()
	}
	for value := 0; value <= 1; value++ {
		s.turn(s.switches[at], value)
		if s.chooseSwitches(at + 1) {
			return true
		}
	}
	return false
}

func (s *search) turn(t toggle, value int) {
	if t.isFlag {
		s.state.Inputs[t.place] = value
		return
	}
	s.state.Has[t.place] = value == 1
}

func (s *search) bothApply() bool {
	if !s.earlier.Applies(s.state) {
		return false
	}
	return s.later.Applies(s.state)
}

// setNumbers gives each num a number of its zone, as the ranks say, or tells that
// there are no such numbers. From the lowest rank on each number is the least one
// that can be: so it leaves the most room for those behind it.
func (s *search) setNumbers() bool {
	least := 0
	placed := 0
	for rank := range s.nums {
		if placed == len(s.nums) {
			return true
		}
		shared := s.sharedZone(rank)
		if shared.low < least {
			shared.low = least
		}
		if shared.low > shared.high {
			return false
		}
		count := s.place(rank, shared.low)
		if count == 0 {
			// The same order comes up with no gap in its ranks.
			return false
		}
		placed += count
		least = shared.low + 1
	}
	return true
}

// sharedZone tells the numbers that are in the zone of every num of a rank.
func (s *search) sharedZone(rank int) zone {
	shared := zone{low: 0, high: api.MaxNumber}
	for _, n := range s.nums {
		if n.rank != rank {
			continue
		}
		if n.zone.low > shared.low {
			shared.low = n.zone.low
		}
		if n.zone.high < shared.high {
			shared.high = n.zone.high
		}
	}
	return shared
}

// place gives a number to every num of a rank, and tells how many there are.
func (s *search) place(rank int, number int) int {
	count := 0
	for _, n := range s.nums {
		if n.rank == rank {
			s.state.Inputs[n.input] = number
			count++
		}
	}
	return count
}
