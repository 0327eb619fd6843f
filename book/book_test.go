package book

import (
	"reflect"
	"strings"
	"testing"

	"statute/api"
)

func TestLines(t *testing.T) {
	got := Read("num a 1..20; flag b; over r s; rule r : c = 3 - 2*a + d when not (b or a<a) and a>=7 or has d and always;")
	want := []Line{
		{Kind: Num, Name: "a", Low: 1, High: 20},
		{Kind: Flag, Name: "b"},
		{Kind: Over, Name: "r", Lower: "s"},
		{Kind: Rule, Name: "r", Concludes: "c",
			Sum: []Part{{Number: 3}, {Minus: true, Starred: true, Number: 2, Name: "a"}, {Name: "d"}},
			Guard: Guard{Tests: 5, Depth: 2, Root: 9, Nodes: []Node{
				{Kind: IsFlag, Name: "b"},
				{Kind: Compare, Name: "a", Mark: "<", Other: "a"},
				{Kind: Or, Left: 0, Right: 1},
				{Kind: Not, Left: 2},
				{Kind: Compare, Name: "a", Mark: ">=", Number: 7},
				{Kind: And, Left: 3, Right: 4},
				{Kind: Has, Name: "d"},
				{Kind: Always},
				{Kind: And, Left: 6, Right: 7},
				{Kind: Or, Left: 5, Right: 8},
			}}},
	}
	if got.Err != api.OK || got.Place != 0 || !reflect.DeepEqual(got.Lines, want) {
		t.Errorf("Read = %+v, want the lines %+v", got, want)
	}
}

func TestDepth(t *testing.T) {
	for _, c := range []struct {
		guard        string
		tests, depth int
	}{
		{"a", 1, 0}, {"not a", 1, 1}, {"(a)", 1, 1}, {"not (not a)", 1, 3}, {"(a) and b", 2, 1}, {"not a or not not b", 2, 2},
		{"(not (a and b) or not ((c)))", 3, 4}, {strings.Repeat("(", 900) + "a" + strings.Repeat(")", 900), 1, 900}, {strings.Repeat("not ", 900) + "a", 1, 900},
	} {
		got := Read("rule r : c = 1 when " + c.guard + ";")
		if got.Err != api.OK || len(got.Lines) != 1 {
			t.Fatalf("Read of the guard %.40q: %+v", c.guard, got)
		}
		if g := got.Lines[0].Guard; g.Tests != c.tests || g.Depth != c.depth {
			t.Errorf("the guard %.40q has %d tests, of a depth of %d, want %d, %d", c.guard, g.Tests, g.Depth, c.tests, c.depth)
		}
	}
}

func TestFaults(t *testing.T) {
	for _, c := range []struct {
		src   string
		err   api.Errno
		place int
	}{
		{strings.Repeat("\n", 4001), api.ErrLong, 0}, {strings.Repeat("(", 4001), api.ErrLong, 0},
		{"flag ", api.ErrForm, 5}, {"flag a; ?", api.ErrForm, 8}, {"over a b c;", api.ErrForm, 9},
	} {
		if got := Read(c.src); got.Err != c.err || got.Place != c.place || got.Lines != nil {
			t.Errorf("Read(%.40q) = %+v, want %d, %d", c.src, got, c.err, c.place)
		}
	}
}
