package statute_test

import (
	"regexp"
	"slices"
	"strconv"
	"strings"

	"statute/api"
)

// This file answers Check, Tidy, Ring and Levels a second time, by other means
// and slowly: the form by an Earley recogniser of the document's grammar, the
// rest by going over rows of tokens. The tests compare the program with it.

const grammar = `
book = 
book = book line
line = num NAME NUMBER .. NUMBER ;
line = flag NAME ;
line = rule NAME : NAME = sum when guard ;
line = over NAME NAME ;
sum = part
sum = sum + part
sum = sum - part
part = NUMBER
part = NUMBER * NAME
part = NAME
guard = term
guard = guard or term
term = fact
term = term and fact
fact = not fact
fact = ( guard )
fact = test
test = always
test = has NAME
test = NAME
test = NAME mark NAME
test = NAME mark NUMBER
mark = <
mark = <=
mark = =
mark = !=
mark = >=
mark = >`

type production struct {
	head string
	body []string
}

var productions = readGrammar()

func readGrammar() []production {
	list := []production{}
	for _, row := range strings.Split(strings.TrimPrefix(grammar, "\n"), "\n") {
		head, body, _ := strings.Cut(row, " = ")
		list = append(list, production{head, strings.Fields(body)})
	}
	return list
}

// refToken is a token: its class is NAME, NUMBER, its own text, or "" if it can
// stand nowhere.
type refToken struct {
	class, text string
	place       int
}

var (
	tokenForm  = regexp.MustCompile(`^(?:[a-z]+|[0-9]+|\.\.|<=|!=|>=|[\x00-\xff])`)
	nameForm   = regexp.MustCompile(`^[a-z]{1,8}$`)
	numberForm = regexp.MustCompile(`^(?:0|[1-9][0-9]{0,3})$`)
	keptForm   = regexp.MustCompile(`^(?:num|flag|rule|over|when|or|and|not|has|always|:|=|\.\.|;|\(|\)|<|<=|!=|>=|>|\+|-|\*)$`)
)

func refTokens(src string) []refToken {
	list := []refToken{}
	for at := 0; at < len(src); {
		if src[at] == ' ' || src[at] == '\n' {
			at++
			continue
		}
		text := tokenForm.FindString(src[at:])
		if text == "" {
			text = src[at : at+1]
		}
		class := ""
		switch {
		case keptForm.MatchString(text):
			class = text
		case nameForm.MatchString(text):
			class = "NAME"
		case numberForm.MatchString(text):
			class = "NUMBER"
		}
		list = append(list, refToken{class, text, at})
		at += len(text)
	}
	return list
}

type item struct{ production, dot, origin int }

// complete adds to a set of items all that follow from it.
func complete(sets []map[item]bool, now int) {
	work := []item{}
	for it := range sets[now] {
		work = append(work, it)
	}
	add := func(it item) {
		if !sets[now][it] {
			sets[now][it] = true
			work = append(work, it)
		}
	}
	for len(work) > 0 {
		it := work[len(work)-1]
		work = work[:len(work)-1]
		p := productions[it.production]
		if it.dot < len(p.body) {
			for i, q := range productions {
				if q.head == p.body[it.dot] {
					add(item{i, 0, now})
					if len(q.body) == 0 {
						add(item{it.production, it.dot + 1, it.origin})
					}
				}
			}
			continue
		}
		waiting := []item{}
		for other := range sets[it.origin] {
			q := productions[other.production]
			if other.dot < len(q.body) && q.body[other.dot] == p.head {
				waiting = append(waiting, other)
			}
		}
		for _, other := range waiting {
			add(item{other.production, other.dot + 1, other.origin})
		}
	}
}

// refForm tells whether a text is a rulebook, and else the place of the fault.
func refForm(src string, tokens []refToken) (bool, int) {
	sets := []map[item]bool{{{0, 0, 0}: true, {1, 0, 0}: true}}
	complete(sets, 0)
	for i, t := range tokens {
		next := map[item]bool{}
		for it := range sets[i] {
			body := productions[it.production].body
			if it.dot < len(body) && body[it.dot] == t.class {
				next[item{it.production, it.dot + 1, it.origin}] = true
			}
		}
		if len(next) == 0 {
			return false, t.place
		}
		sets = append(sets, next)
		complete(sets, i+1)
	}
	for it := range sets[len(tokens)] {
		p := productions[it.production]
		if p.head == "book" && it.origin == 0 && it.dot == len(p.body) {
			return true, 0
		}
	}
	return false, len(src)
}

// refLines splits the tokens of a rulebook into lines, each without its `;`.
func refLines(tokens []refToken) [][]string {
	lines, line := [][]string{}, []string{}
	for _, t := range tokens {
		if t.text == ";" {
			lines = append(lines, line)
			line = []string{}
			continue
		}
		line = append(line, t.text)
	}
	return lines
}

// split splits a row at a word where it stands inside no brackets.
func split(row []string, word string) [][]string {
	list, from, open := [][]string{}, 0, 0
	for i, text := range row {
		switch {
		case text == "(":
			open++
		case text == ")":
			open--
		case text == word && open == 0:
			list = append(list, row[from:i])
			from = i + 1
		}
	}
	return append(list, row[from:])
}

// refGuard tells what a guard becomes, and whether that is an or-text, an
// and-text or a plain one.
func refGuard(row []string) (string, string) {
	if sides := split(row, "or"); len(sides) > 1 {
		texts := []string{}
		for _, side := range sides {
			text, _ := refGuard(side)
			texts = append(texts, text)
		}
		return strings.Join(texts, " or "), "or"
	}
	if sides := split(row, "and"); len(sides) > 1 {
		texts := []string{}
		for _, side := range sides {
			text, kind := refGuard(side)
			if kind == "or" {
				text = "( " + text + " )"
			}
			texts = append(texts, text)
		}
		return strings.Join(texts, " and "), "and"
	}
	if row[0] == "(" {
		return refGuard(row[1 : len(row)-1])
	}
	if row[0] == "not" {
		text, kind := refGuard(row[1:])
		if kind != "plain" {
			text = "( " + text + " )"
		}
		return "not " + text, "plain"
	}
	return strings.Join(row, " "), "plain"
}

func refTidy(src string) (string, api.Errno) {
	if len(src) > 4000 {
		return "", api.ErrLong
	}
	tokens := refTokens(src)
	if ok, _ := refForm(src, tokens); !ok {
		return "", api.ErrForm
	}
	out := ""
	for _, line := range refLines(tokens) {
		head, guard := cutGuard(line)
		out += strings.Join(head, " ")
		if guard != nil {
			text, _ := refGuard(guard)
			out += " " + text
		}
		out += ";\n"
	}
	return out, api.OK
}

// cutGuard tells a line up to `when` (or whole), and its guard.
func cutGuard(line []string) ([]string, []string) {
	for i, text := range line {
		if text == "when" {
			return line[:i+1], line[i+1:]
		}
	}
	return line, nil
}

// refTests tells the tests of a guard and the depth of each.
func refTests(row []string, depth int) ([][]string, []int) {
	tests, depths := [][]string{}, []int{}
	for _, term := range split(row, "or") {
		for _, fact := range split(term, "and") {
			switch fact[0] {
			case "not":
				l, d := refTests(fact[1:], depth+1)
				tests, depths = append(tests, l...), append(depths, d...)
			case "(":
				l, d := refTests(fact[1:len(fact)-1], depth+1)
				tests, depths = append(tests, l...), append(depths, d...)
			default:
				tests, depths = append(tests, fact), append(depths, depth)
			}
		}
	}
	return tests, depths
}

func refMany(lines [][]string) int {
	most := map[string]int{"num": 3, "flag": 3, "rule": 8, "over": 28}
	for i, line := range lines {
		most[line[0]]--
		if most[line[0]] < 0 {
			return i
		}
		if line[0] != "rule" {
			continue
		}
		head, guard := cutGuard(line)
		parts := 1
		for j := 5; j < len(head); j++ {
			switch head[j] {
			case "+", "-":
				parts++
			case "*":
				if n, _ := strconv.Atoi(head[j-1]); n > 9 {
					return i
				}
			}
		}
		tests, depths := refTests(guard, 0)
		if parts > 4 || len(tests) > 6 {
			return i
		}
		for _, d := range depths {
			if d > 4 {
				return i
			}
		}
	}
	return -1
}

func isWord(text string) bool { return nameForm.MatchString(text) }

// refNames tells the first line with an error of names, ranges or pairs.
func refNames(lines [][]string) (api.Errno, int) {
	kinds := map[string]string{} // "num x", "rule r": what there is anywhere
	for i := len(lines) - 1; i >= 0; i-- {
		line := lines[i]
		switch line[0] {
		case "num", "flag":
			kinds[line[0]+" "+line[1]] = "yes"
		case "rule":
			kinds["rule "+line[1]] = line[3] // so the first one is left
			kinds["concl "+line[3]] = "yes"
		}
	}
	has := func(kind, name string) bool { return kinds[kind+" "+name] != "" }
	seen := map[string]bool{}
	for i, line := range lines {
		bad := false
		switch line[0] {
		case "num", "flag":
			bad = seen["input "+line[1]] || has("concl", line[1])
			seen["input "+line[1]] = true
		case "rule":
			bad = seen["rule "+line[1]]
			seen["rule "+line[1]] = true
			head, guard := cutGuard(line)
			for _, text := range head[5 : len(head)-1] {
				bad = bad || isWord(text) && !has("num", text) && !has("concl", text)
			}
			tests, _ := refTests(guard, 0)
			for _, test := range tests {
				switch {
				case test[0] == "always":
				case test[0] == "has":
					bad = bad || !has("concl", test[1])
				case len(test) == 1:
					bad = bad || !has("flag", test[0])
				default:
					bad = bad || !has("num", test[0]) || isWord(test[2]) && !has("num", test[2])
				}
			}
		case "over":
			bad = !has("rule", line[1]) || !has("rule", line[2])
			if !bad && (line[1] == line[2] || kinds["rule "+line[1]] != kinds["rule "+line[2]]) {
				return api.ErrPair, i
			}
		}
		if bad {
			return api.ErrName, i
		}
		if line[0] == "num" {
			low, _ := strconv.Atoi(line[2])
			high, _ := strconv.Atoi(line[4])
			if low > high {
				return api.ErrRange, i
			}
		}
	}
	return api.OK, 0
}

// inRing tells whether a walk along arrows from a name leads back to it.
func inRing(arrows map[string][]string, start string) bool {
	seen, work := map[string]bool{}, append([]string{}, arrows[start]...)
	for len(work) > 0 {
		at := work[len(work)-1]
		work = work[:len(work)-1]
		if at == start {
			return true
		}
		if !seen[at] {
			seen[at] = true
			work = append(work, arrows[at]...)
		}
	}
	return false
}

// refArrows tells which conclusion names which words of its rules' sums and
// behind `has`, and which rule is put over which.
func refArrows(lines [][]string) (map[string][]string, map[string][]string) {
	names, overs := map[string][]string{}, map[string][]string{}
	for _, line := range lines {
		switch line[0] {
		case "rule":
			head, guard := cutGuard(line)
			names[line[3]] = append(names[line[3]], head[5:len(head)-1]...)
			tests, _ := refTests(guard, 0)
			for _, test := range tests {
				if test[0] == "has" {
					names[line[3]] = append(names[line[3]], test[1])
				}
			}
		case "over":
			overs[line[1]] = append(overs[line[1]], line[2])
		}
	}
	return names, overs
}

func refRings(lines [][]string) (api.Errno, int) {
	names, overs := refArrows(lines)
	for name := range names {
		if inRing(names, name) {
			return api.ErrRing, 0
		}
	}
	for label := range overs {
		if inRing(overs, label) {
			return api.ErrRing, 1
		}
	}
	return api.OK, 0
}

func refCheck(src string) (api.Errno, int) {
	if len(src) > 4000 {
		return api.ErrLong, 0
	}
	tokens := refTokens(src)
	if ok, place := refForm(src, tokens); !ok {
		return api.ErrForm, place
	}
	lines := refLines(tokens)
	if i := refMany(lines); i >= 0 {
		return api.ErrMany, i
	}
	if err, i := refNames(lines); err != api.OK {
		return err, i
	}
	return refRings(lines)
}

// isRing tells whether a list is a ring of arrows.
func isRing(arrows map[string][]string, list []string) bool {
	seen := map[string]bool{}
	for i, name := range list {
		if seen[name] || !slices.Contains(arrows[name], list[(i+1)%len(list)]) {
			return false
		}
		seen[name] = true
	}
	return len(list) > 0
}

// refRing tells the error that Ring answers, and whether a list may stand beside it.
func refRing(src string, list []string) (api.Errno, bool) {
	err, place := refCheck(src)
	switch err {
	case api.OK:
		return api.ErrCalm, len(list) == 0
	case api.ErrRing:
		names, overs := refArrows(refLines(refTokens(src)))
		return api.OK, place == 0 && isRing(names, list) || place == 1 && isRing(overs, list)
	}
	return err, len(list) == 0
}

// refLevels tells the levels of a rulebook that has no error.
func refLevels(src string) []api.Level {
	lines := refLines(refTokens(src))
	names, _ := refArrows(lines)
	list, seen := []api.Level{}, map[string]bool{}
	for _, line := range lines {
		if line[0] == "rule" && !seen[line[3]] {
			seen[line[3]] = true
			list = append(list, api.Level{Name: line[3], Level: refLevel(names, line[3])})
		}
	}
	return list
}

func refLevel(names map[string][]string, name string) int {
	level := 0
	for _, word := range names[name] {
		if _, ok := names[word]; ok { // words that are no conclusion name nothing
			level = max(level, 1+refLevel(names, word))
		}
	}
	return level
}
