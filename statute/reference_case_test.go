package statute_test

import (
	"math/big"
	"regexp"
	"slices"
	"strconv"

	"statute/api"
)

// This file answers Weigh and Eval a second time: facts by regular expressions,
// and a case by asking for one conclusion after the other, whenever a rule needs
// it, on rows of tokens; sums are made with numbers that have no bound.

var (
	factForm  = `([a-z]{1,8})[ \n]*=[ \n]*(0|[1-9][0-9]{0,3}|yes|no)[ \n]*;[ \n]*`
	oneFact   = regexp.MustCompile(factForm)
	factsForm = regexp.MustCompile(`^[ \n]*(?:` + factForm + `)*$`)
)

// refFacts tells what facts give each input of a rulebook's lines: a number, or
// yes or no.
func refFacts(lines [][]string, facts string) (map[string]string, api.Errno) {
	if len(facts) > 300 {
		return nil, api.ErrLong
	}
	if !factsForm.MatchString(facts) {
		return nil, api.ErrForm
	}
	given, twice := map[string]string{}, false
	for _, row := range oneFact.FindAllStringSubmatch(facts, -1) {
		if keptForm.MatchString(row[1]) {
			return nil, api.ErrForm
		}
		twice = twice || given[row[1]] != ""
		given[row[1]] = row[2]
	}
	fit := 0
	for _, line := range lines {
		value, isGiven := given[lineName(line)]
		number, noNumber := strconv.Atoi(value)
		switch {
		case line[0] == "num" && isGiven && noNumber == nil:
			low, _ := strconv.Atoi(line[2])
			high, _ := strconv.Atoi(line[4])
			if low <= number && number <= high {
				fit++
			}
		case line[0] == "flag" && isGiven && noNumber != nil:
			fit++
		case line[0] == "num" || line[0] == "flag":
			return nil, api.ErrFacts
		}
	}
	if twice || fit != len(given) {
		return nil, api.ErrFacts
	}
	return given, api.OK
}

// lineName tells the name of an input's line; of another, nothing.
func lineName(line []string) string {
	if line[0] == "num" || line[0] == "flag" {
		return line[1]
	}
	return ""
}

// refCase is a case of a rulebook.
type refCase struct {
	lines [][]string
	given map[string]string
}

func (c refCase) number(text string) int {
	if isWord(text) {
		text = c.given[text]
	}
	n, _ := strconv.Atoi(text)
	return n
}

func (c refCase) guard(row []string) bool {
	if sides := split(row, "or"); len(sides) > 1 {
		return slices.ContainsFunc(sides, c.guard)
	}
	if sides := split(row, "and"); len(sides) > 1 {
		return !slices.ContainsFunc(sides, func(side []string) bool { return !c.guard(side) })
	}
	switch {
	case row[0] == "(":
		return c.guard(row[1 : len(row)-1])
	case row[0] == "not":
		return !c.guard(row[1:])
	case row[0] == "always":
		return true
	case row[0] == "has":
		return len(c.standing(row[1])) == 1
	case len(row) == 1:
		return c.given[row[0]] == "yes"
	}
	a, b := c.number(row[0]), c.number(row[2])
	return map[string]bool{"<": a < b, "<=": a <= b, "=": a == b, "!=": a != b, ">=": a >= b, ">": a > b}[row[1]]
}

func (c refCase) isConclusion(name string) bool {
	return slices.ContainsFunc(c.lines, func(line []string) bool { return line[0] == "rule" && line[3] == name })
}

func (c refCase) applies(line []string) bool {
	head, guard := cutGuard(line)
	for _, text := range head[5 : len(head)-1] {
		if c.isConclusion(text) && len(c.standing(text)) != 1 {
			return false
		}
	}
	return c.guard(guard)
}

// isAbove follows the over lines down from a rule.
func (c refCase) isAbove(upper, lower string) bool {
	for _, line := range c.lines {
		if line[0] == "over" && line[1] == upper && (line[2] == lower || c.isAbove(line[2], lower)) {
			return true
		}
	}
	return false
}

func (c refCase) verdict(rule []string) int {
	if !c.applies(rule) {
		return api.Idle
	}
	for _, line := range c.lines {
		if line[0] == "rule" && c.isAbove(line[1], rule[1]) && c.applies(line) {
			return api.Beaten
		}
	}
	return api.Stands
}

// standing tells the rules of a conclusion that stand.
func (c refCase) standing(name string) [][]string {
	list := [][]string{}
	for _, line := range c.lines {
		if line[0] == "rule" && line[3] == name && c.verdict(line) == api.Stands {
			list = append(list, line)
		}
	}
	return list
}

// value tells what the sum of a rule that applies comes to.
func (c refCase) value(rule []string) *big.Int {
	head, _ := cutGuard(rule)
	total, factor := big.NewInt(0), big.NewInt(1)
	for i, text := range head[5 : len(head)-1] {
		at := 5 + i
		switch {
		case text == "+" || text == "*":
		case text == "-":
			factor = big.NewInt(-1)
		case head[at+1] == "*":
			factor.Mul(factor, big.NewInt(int64(c.number(text))))
		default:
			value := big.NewInt(int64(c.number(text)))
			if c.isConclusion(text) {
				value = c.value(c.standing(text)[0])
			}
			total.Add(total, factor.Mul(factor, value))
			factor = big.NewInt(1)
		}
	}
	return total
}

// refOutcome tells what Weigh and Eval answer of a rulebook that has no error.
func refOutcome(lines [][]string, facts string) ([]api.Verdict, []api.Answer, api.Errno) {
	given, err := refFacts(lines, facts)
	if err != api.OK {
		return nil, nil, err
	}
	c := refCase{lines: lines, given: given}
	verdicts, answers, seen := []api.Verdict{}, []api.Answer{}, map[string]bool{}
	for _, line := range lines {
		if line[0] != "rule" {
			continue
		}
		verdicts = append(verdicts, api.Verdict{Rule: line[1], State: c.verdict(line)})
		if seen[line[3]] {
			continue
		}
		seen[line[3]] = true
		answer := api.Answer{Name: line[3]}
		switch standing := c.standing(line[3]); len(standing) {
		case 0:
		case 1:
			answer.State = api.Holds
			answer.Value = int(c.value(standing[0]).Int64())
		default:
			answer.State = api.Clashes
		}
		answers = append(answers, answer)
	}
	return verdicts, answers, api.OK
}
