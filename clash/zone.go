package clash

import "statute/model"

// zone is a row of numbers, both ends of which belong to it.
type zone struct {
	low  int
	high int
}

// zonesOf cuts the range of a num into zones in which nothing changes for two
// rules, as long as they compare the num with numbers.
func zonesOf(input model.Input, earlierBounds []int, laterBounds []int) []zone {
	zones := []zone{{low: input.Low, high: input.High}}
	for _, bound := range earlierBounds {
		zones = splitAll(zones, bound)
	}
	for _, bound := range laterBounds {
		zones = splitAll(zones, bound)
	}
	return zones
}

func splitAll(zones []zone, bound int) []zone {
	all := []zone{}
	for _, z := range zones {
		for _, part := range z.split(bound) {
			all = append(all, part)
		}
	}
	return all
}

// split tells the parts of a zone below, at and above a number, but for those
// that are empty.
func (z zone) split(bound int) []zone {
	if bound < z.low || z.high < bound {
		return []zone{z}
	}
	parts := []zone{}
	if z.low < bound {
		parts = append(parts, zone{low: z.low, high: bound - 1})
	}
	parts = append(parts, zone{low: bound, high: bound})
	if bound < z.high {
		parts = append(parts, zone{low: bound + 1, high: z.high})
	}
	return parts
}
