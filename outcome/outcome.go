// Package outcome tells what a case leads to: which rules stand, and what comes
// of each conclusion.
package outcome

import (
	"statute/api"
	"statute/model"
)

// Outcome is what a case leads to.
type Outcome struct {
	Verdicts []api.Verdict // of the rules, in the order of the text
	Answers  []api.Answer  // of the conclusions, in their order
}

// hearing is a case on its way to an outcome.
type hearing struct {
	model   *model.Model
	state   model.State
	applies []bool // of each rule
	found   Outcome
}

// Of tells what a case leads to that gives these numbers to the inputs.
func Of(m *model.Model, inputs []int) Outcome {
	count := len(m.Conclusions)
	h := hearing{model: m, applies: make([]bool, len(m.Rules))}
	h.state = model.State{Inputs: inputs, Has: make([]bool, count), Values: make([]int, count)}
	for _, rule := range m.Rules {
		h.found.Verdicts = append(h.found.Verdicts, api.Verdict{Rule: rule.Label, State: api.Idle})
	}
	for _, conclusion := range m.Conclusions {
		h.found.Answers = append(h.found.Answers, api.Answer{Name: conclusion.Name, State: api.Absent})
	}
	// What a conclusion names is of a lower level, and levels leave no gap.
	for level := 0; level < count; level++ {
		for i, conclusion := range m.Conclusions {
			if conclusion.Level == level {
				h.settle(i)
			}
		}
	}
	return h.found
}

// settle tells how it stands with a conclusion and its rules, once it does so
// with all conclusions that it names.
func (h *hearing) settle(conclusion int) {
	for i, rule := range h.model.Rules {
		if rule.Concludes == conclusion {
			h.applies[i] = rule.Applies(h.state)
		}
	}
	standing := 0
	value := 0
	for i, rule := range h.model.Rules {
		if rule.Concludes != conclusion || !h.applies[i] {
			continue
		}
		if h.isBeaten(i) {
			h.found.Verdicts[i].State = api.Beaten
			continue
		}
		h.found.Verdicts[i].State = api.Stands
		standing++
		value = rule.Sum(h.state)
	}
	if standing > 1 {
		h.found.Answers[conclusion].State = api.Clashes
	}
	if standing == 1 {
		h.state.Has[conclusion] = true
		h.state.Values[conclusion] = value
		h.found.Answers[conclusion].State = api.Holds
		h.found.Answers[conclusion].Value = value
	}
}

// isBeaten tells of a rule that applies whether one above it does too.
func (h *hearing) isBeaten(lower int) bool {
	for upper, applies := range h.applies {
		if applies && h.model.StandsAbove(upper, lower) {
			return true
		}
	}
	return false
}
