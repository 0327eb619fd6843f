package statute_test

import (
	"slices"
	"strconv"

	"statute/api"
)

// This file answers Clash a second time: by trying settings, all of them where
// ranges are short, of whatever names two rules mention.

// refSetting is a setting: a num's number; 1 for a flag's yes and for a conclusion
// that has a value, else 0.
type refSetting map[string]int

// refHolds makes of a guard what tells whether it holds under a setting.
func refHolds(row []string) func(refSetting) bool {
	for _, word := range []string{"or", "and"} {
		parts := []func(refSetting) bool{}
		for _, side := range split(row, word) {
			if len(side) < len(row) {
				parts = append(parts, refHolds(side))
			}
		}
		if len(parts) > 0 {
			return func(s refSetting) bool {
				isOr := word == "or"
				return slices.ContainsFunc(parts, func(part func(refSetting) bool) bool { return part(s) == isOr }) == isOr
			}
		}
	}
	switch {
	case row[0] == "(":
		return refHolds(row[1 : len(row)-1])
	case row[0] == "not":
		inner := refHolds(row[1:])
		return func(s refSetting) bool { return !inner(s) }
	case row[0] == "always":
		return func(refSetting) bool { return true }
	case row[0] == "has":
		return func(s refSetting) bool { return s[row[1]] == 1 }
	case len(row) == 1:
		return func(s refSetting) bool { return s[row[0]] == 1 }
	}
	return refComparison(row)
}

func refComparison(row []string) func(refSetting) bool {
	number, noNumber := strconv.Atoi(row[2])
	return func(s refSetting) bool {
		a, b := s[row[0]], number
		if noNumber != nil {
			b = s[row[2]]
		}
		switch row[1] {
		case "<":
			return a < b
		case "<=":
			return a <= b
		case "=":
			return a == b
		case "!=":
			return a != b
		case ">=":
			return a >= b
		}
		return a > b
	}
}

// refWouldApply makes of a rule what tells whether it would apply under a setting.
func refWouldApply(lines [][]string, rule []string) func(refSetting) bool {
	head, guard := cutGuard(rule)
	needed := []string{}
	for _, text := range head[5 : len(head)-1] {
		if (refCase{lines: lines}).isConclusion(text) {
			needed = append(needed, text)
		}
	}
	holds := refHolds(guard)
	return func(s refSetting) bool {
		return holds(s) && !slices.ContainsFunc(needed, func(name string) bool { return s[name] == 0 })
	}
}

// refValues tells what a name can be under a setting: of a long range only the
// numbers near those that the text has, which is enough for three nums.
func refValues(lines [][]string, name string) []int {
	for _, line := range lines {
		if line[0] != "num" || line[1] != name {
			continue
		}
		low, _ := strconv.Atoi(line[2])
		high, _ := strconv.Atoi(line[4])
		list := []int{}
		for _, n := range refNear(lines, low, high) {
			if low <= n && n <= high {
				list = append(list, n)
			}
		}
		return list
	}
	return []int{0, 1}
}

// refNear tells all numbers of a short range, of a long one those near a number
// of the text.
func refNear(lines [][]string, low, high int) []int {
	list := []int{}
	for n := low; n <= high && high-low < 12; n++ {
		list = append(list, n)
	}
	for _, text := range slices.Concat(lines...) {
		m, noNumber := strconv.Atoi(text)
		for n := m - 3; n <= m+3 && noNumber == nil && high-low >= 12; n++ {
			list = append(list, n)
		}
	}
	slices.Sort(list)
	return slices.Compact(list)
}

// refNamed tells the inputs, then the conclusions.
func refNamed(lines [][]string) []string {
	inputs, conclusions := []string{}, []string{}
	for _, line := range lines {
		switch line[0] {
		case "num", "flag":
			inputs = append(inputs, line[1])
		case "rule":
			if !slices.Contains(conclusions, line[3]) {
				conclusions = append(conclusions, line[3])
			}
		}
	}
	return append(inputs, conclusions...)
}

// refCanMeet tells whether there is a setting under which both rules would apply.
func refCanMeet(lines [][]string, one, other []string) bool {
	names, values := []string{}, [][]int{}
	for _, name := range refNamed(lines) {
		if slices.Contains(one[4:], name) || slices.Contains(other[4:], name) {
			names, values = append(names, name), append(values, refValues(lines, name))
		}
	}
	oneApplies, otherApplies := refWouldApply(lines, one), refWouldApply(lines, other)
	setting := refSetting{}
	var try func(at int) bool
	try = func(at int) bool {
		if at == len(names) {
			return oneApplies(setting) && otherApplies(setting)
		}
		return slices.ContainsFunc(values[at], func(value int) bool {
			setting[names[at]] = value
			return try(at + 1)
		})
	}
	return try(0)
}

// refClash tells the two rules that Clash tells of a rulebook that has no error,
// or nothing.
func refClash(lines [][]string) []string {
	for i, one := range lines {
		for _, other := range lines[i+1:] {
			c := refCase{lines: lines}
			if one[0] != "rule" || other[0] != "rule" || one[3] != other[3] || c.isAbove(one[1], other[1]) || c.isAbove(other[1], one[1]) {
				continue
			}
			if refCanMeet(lines, one, other) {
				return []string{one[1], other[1]}
			}
		}
	}
	return nil
}

// refIsSetting tells whether a list is a setting of a rulebook under which the
// rules of all these labels would apply.
func refIsSetting(lines [][]string, list []api.Setting, labels []string) bool {
	names, setting := refNamed(lines), refSetting{}
	if len(list) != len(names) {
		return false
	}
	for i, x := range list {
		if x.Name != names[i] || !refIsPossible(lines, x) {
			return false
		}
		setting[x.Name] = x.Value
	}
	for _, line := range lines {
		if line[0] == "rule" && slices.Contains(labels, line[1]) && !refWouldApply(lines, line)(setting) {
			return false
		}
	}
	return true
}

func refIsPossible(lines [][]string, x api.Setting) bool {
	for _, line := range lines {
		if line[0] == "num" && line[1] == x.Name {
			low, _ := strconv.Atoi(line[2])
			high, _ := strconv.Atoi(line[4])
			return low <= x.Value && x.Value <= high
		}
	}
	return x.Value == 0 || x.Value == 1
}
