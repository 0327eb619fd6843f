// Package clash tells which two rules of a rulebook can clash, and a setting
// under which both would apply.
package clash

import (
	"statute/api"
	"statute/model"
)

// Finding is two rules that can clash, by their labels, and a setting; or
// nothing, if no two rules can.
type Finding struct {
	Labels  []string
	Setting []api.Setting
}

// Find tells the first two rules that can clash: first by the earlier rule, then
// by the later one.
func Find(m *model.Model) Finding {
	for i, earlier := range m.Rules {
		for j, later := range m.Rules {
			if i >= j || !areRivals(m, i, j) {
				continue
			}
			s := newSearch(m, earlier, later)
			if s.chooseZones(0) {
				return Finding{Labels: []string{earlier.Label, later.Label}, Setting: settingOf(m, s.state)}
			}
		}
	}
	return Finding{}
}

// areRivals tells of two rules, by their places, whether they conclude the same
// and neither stands above the other.
func areRivals(m *model.Model, one int, other int) bool {
	if m.Rules[one].Concludes != m.Rules[other].Concludes {
		return false
	}
	return !m.StandsAbove(one, other) && !m.StandsAbove(other, one)
}

// settingOf writes a state by name: the inputs, then the conclusions.
func settingOf(m *model.Model, state model.State) []api.Setting {
	setting := []api.Setting{}
	for i, input := range m.Inputs {
		setting = append(setting, api.Setting{Name: input.Name, Value: state.Inputs[i]})
	}
	for i, conclusion := range m.Conclusions {
		value := 0
		if state.Has[i] {
			value = 1
		}
		setting = append(setting, api.Setting{Name: conclusion.Name, Value: value})
	}
	return setting
}
