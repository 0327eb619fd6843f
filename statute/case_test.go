package statute_test

import (
	"fmt"
	"math/rand"
	"slices"
	"strconv"
	"strings"
	"testing"

	"statute/api"
	"statute/statute"
)

// told writes what Eval and Weigh answer as a text: each conclusion with its
// value, - if it is absent, ! if it clashes; then each rule with its state.
func told(t *testing.T, src, facts string) string {
	t.Helper()
	base, err := statute.Load(src, false)
	if err != api.OK {
		return fmt.Sprint("not loaded: ", err)
	}
	answers, err := base.Eval(facts)
	verdicts, weighErr := base.Weigh(facts)
	if err != weighErr {
		t.Errorf("P8: of %q with %q: Eval %d, Weigh %d", src, facts, err, weighErr)
	}
	if err != api.OK {
		if len(answers) > 0 || len(verdicts) > 0 {
			t.Errorf("P1: of %q with %q: %v, %v beside the error %d", src, facts, answers, verdicts, err)
		}
		return fmt.Sprint("error ", err)
	}
	words := []string{}
	for _, answer := range answers {
		word := map[int]string{api.Absent: "-", api.Holds: strconv.Itoa(answer.Value), api.Clashes: "!"}[answer.State]
		if answer.State != api.Holds && answer.Value != 0 {
			t.Errorf("P8: of %q with %q: %v", src, facts, answer)
		}
		words = append(words, answer.Name+" "+word)
	}
	for _, verdict := range verdicts {
		word := map[int]string{api.Idle: "idle", api.Beaten: "beaten", api.Stands: "stands"}[verdict.State]
		words = append(words, verdict.Rule+" "+word)
	}
	return strings.Join(words, ", ")
}

// cases are facts, and what Eval and Weigh tell of them.
type cases []struct{ src, facts, want string }

func (list cases) ask(t *testing.T) {
	t.Helper()
	for _, c := range list {
		if got := told(t, c.src, c.facts); got != c.want {
			t.Errorf("P8: of %q with %.60q: %s, want %s", c.src, c.facts, got, c.want)
		}
		base, _ := statute.Load(c.src, false)
		compareCase(t, c.src, base, c.facts)
	}
}

// compareCase puts facts to a Base of a rulebook and to the reference, and tells
// the error.
func compareCase(t *testing.T, src string, base *statute.Base, facts string) api.Errno {
	t.Helper()
	verdicts, answers, err := refOutcome(refLines(refTokens(src)), facts)
	if got, e := base.Weigh(facts); !slices.Equal(got, verdicts) || e != err {
		t.Errorf("P8: Weigh of %q with %.200q = %v, %d, want %v, %d", src, facts, got, e, verdicts, err)
	}
	if got, e := base.Eval(facts); !slices.Equal(got, answers) || e != err {
		t.Errorf("P8: Eval of %q with %.200q = %v, %d, want %v, %d", src, facts, got, e, answers, err)
	}
	return err
}

// compareCases puts some facts, most of them a case, to a Base of a rulebook.
func compareCases(t *testing.T, src string, base *statute.Base) {
	t.Helper()
	m := maker{rand.New(rand.NewSource(int64(len(src))))}
	for i := 0; i < 6; i++ {
		facts := m.facts(src)
		compareCase(t, src, base, facts)
		compareCase(t, src, base, m.spoil(facts))
	}
}

// facts is a case of a rulebook, the inputs in any order.
func (m maker) facts(src string) string {
	list := []string{}
	for _, line := range refLines(refTokens(src)) {
		switch line[0] {
		case "num":
			low, _ := strconv.Atoi(line[2])
			high, _ := strconv.Atoi(line[4])
			list = append(list, line[1]+"="+strconv.Itoa(low+m.source.Intn(high-low+1))+";")
		case "flag":
			list = append(list, line[1]+" = "+m.pick("yes", "no")+" ;\n")
		}
	}
	m.source.Shuffle(len(list), func(i, j int) { list[i], list[j] = list[j], list[i] })
	return strings.Join(list, "")
}

func TestExampleCases(t *testing.T) {
	cases{
		{T, "age = 30; pay = 500; vet = no;", "tax 1000, basic stands, young idle, free idle"},
		{T, "vet=no;age=20;pay=500;", "tax 500, basic beaten, young stands, free idle"},
		{T, "age=20;pay=500;vet=yes;", "tax !, basic beaten, young stands, free stands"},
		{T + "over free young;", "age=20;pay=500;vet=yes;", "tax 0, basic beaten, young beaten, free stands"},
		{T, "age=20;pay=500;", "error 10"}, {T, "age=121;pay=500;vet=no;", "error 10"}, {T, "age=20,pay=500;", "error 2"},
		{"", "", ""},
		{"rule r: c = 1 when always; rule s: e = 2 * d when always; rule t: d = c + 1 when has c;", "", "c 1, e 4, d 2, r stands, s stands, t stands"},
	}.ask(t)
}

func TestFactsForm(t *testing.T) {
	small := "num no 3..7;flag yes;rule r:c=no when yes;"
	fine := "c 5, r stands"
	cases{
		{small, "no=5;yes=yes;", fine}, {small, "yes=yes;no=5;", fine}, {small, " \n no\n=\n5 ; yes = yes\n;\n ", fine}, {small, "yes=no;no=5;", "c -, r idle"},
		{small, "no=5;yes=yes", "error 2"}, {small, "no=5;yes=yes;;", "error 2"}, {small, ";no=5;yes=yes;", "error 2"}, {small, "no=5 yes=yes;", "error 2"}, {small, "no=5;yes=yes;no", "error 2"}, {small, "no=5;yes=yes;no=", "error 2"}, {small, "no=5;yes=yes;no=5", "error 2"},
		{small, "no 5;yes=yes;", "error 2"}, {small, "no=;yes=yes;", "error 2"}, {small, "=5;yes=yes;", "error 2"}, {small, "5=no;yes=yes;", "error 2"}, {small, "no==5;yes=yes;", "error 2"}, {small, "no:5;yes=yes;", "error 2"}, {small, "no<=5;yes=yes;", "error 2"}, {small, "no=5:yes=yes;", "error 2"},
		{small, "no=-5;yes=yes;", "error 2"}, {small, "no=2+3;yes=yes;", "error 2"}, {small, "no=(5);yes=yes;", "error 2"}, {small, "num no=5;flag yes=yes;", "error 2"}, {small, "no=05;yes=yes;", "error 2"}, {small, "no=00005;yes=yes;", "error 2"}, {small, "no=10000;yes=yes;", "error 2"}, {small, "no=5.;yes=yes;", "error 2"}, {small, "no=5!;yes=yes;", "error 2"},
		{small, "no=5;yes=maybe;", "error 2"}, {small, "no=5;yes=y;", "error 2"}, {small, "no=5;yes=yesno;", "error 2"}, {small, "no=5;yes=yes yes;", "error 2"}, {small, "no=5;yes=not;", "error 2"}, {small, "no=5;yes=always;", "error 2"}, {small, "no=5;yes=c;", "error 2"}, {small, "no=5;yes=no no;", "error 2"}, {small, "no=5;yes=Yes;", "error 2"}, {small, "no=5;yes=YES;", "error 2"},
		{small, "no=5;yes=yes;has=1;", "error 2"}, {small, "no=5;yes=yes;when=no;", "error 2"}, {small, "no=5;yes=yes;ninelette=1;", "error 2"}, {small, "no=5;yes=yes;eightlet=1;", "error 10"}, {small, "no=5;yes=yes;\t", "error 2"}, {small, "no=5;yes=yes;\x00", "error 2"}, {small, "no=5;yes=yes;\xff", "error 2"}, {small, "no=5;\r\nyes=yes;", "error 2"},
		{"", "", ""}, {"", " \n\n ", ""}, {"", ";", "error 2"}, {"", "a", "error 2"}, {"", "5", "error 2"}, {"", "a=1;", "error 10"}, {"", "a=yes;", "error 10"}, {"flag a;", "a=no;", ""}, {"num a 0..9999;", "a=9999;", ""},
		// The form comes ahead of what it says.
		{small, "no=9;yes=1;x=1;no=no;", "error 10"}, {small, "no=9;yes=1;x=1;no=no", "error 2"}, {"", "a=1;b", "error 2"}, {small, "no=9;no=9;no=ever;", "error 2"},
	}.ask(t)
}

func TestFactsLength(t *testing.T) {
	facts := "age=20;pay=500;vet=no;"
	fine := "tax 500, basic beaten, young stands, free idle"
	cases{
		{T, padded(facts, 299), fine}, {T, padded(facts, 300), fine}, {T, padded(facts, 301), "error 1"}, {T, strings.Repeat(" ", 300-len(facts)) + facts, fine}, {T, strings.Repeat(" ", 301-len(facts)) + facts, "error 1"},
		{T, strings.Repeat("!", 300), "error 2"}, {T, strings.Repeat("!", 301), "error 1"}, {T, strings.Repeat("age=1;", 50), "error 10"}, {T, strings.Repeat("age=1;", 51), "error 1"}, {T, strings.Repeat("a", 300), "error 2"}, {T, strings.Repeat("a", 1000000), "error 1"}, {"", strings.Repeat("\n", 300), ""}, {"", strings.Repeat("\n", 301), "error 1"},
	}.ask(t)
}

func TestFactsFit(t *testing.T) {
	src := "flag f;num x 3..7;rule f:c=x+y when f and g;num y 0..0;flag g;rule r:d=1 when always;"
	fine := "c 3, d 1, f stands, r stands"
	cases{
		{src, "f=yes;x=3;y=0;g=yes;", fine}, {src, "g=yes;y=0;x=3;f=yes;", fine}, {src, "x=7;y=0;g=yes;f=yes;", "c 7, d 1, f stands, r stands"},
		{src, "f=yes;x=2;y=0;g=yes;", "error 10"}, {src, "f=yes;x=8;y=0;g=yes;", "error 10"}, {src, "f=yes;x=3;y=1;g=yes;", "error 10"}, {src, "f=yes;x=9999;y=0;g=yes;", "error 10"}, {src, "f=yes;x=0;y=0;g=yes;", "error 10"},
		{src, "x=3;y=0;g=yes;", "error 10"}, {src, "f=yes;y=0;g=yes;", "error 10"}, {src, "f=yes;x=3;g=yes;", "error 10"}, {src, "f=yes;x=3;y=0;", "error 10"}, {src, "", "error 10"},
		{src, "f=yes;x=3;y=0;g=yes;f=yes;", "error 10"}, {src, "f=no;x=3;y=0;g=yes;f=yes;", "error 10"}, {src, "x=3;f=yes;x=3;y=0;g=yes;", "error 10"}, {src, "x=3;f=yes;x=4;y=0;g=yes;", "error 10"}, {src, "f=yes;f=yes;x=3;g=yes;", "error 10"},
		{src, "f=1;x=3;y=0;g=yes;", "error 10"}, {src, "f=0;x=3;y=0;g=yes;", "error 10"}, {src, "f=yes;x=yes;y=0;g=yes;", "error 10"}, {src, "f=yes;x=3;y=no;g=yes;", "error 10"},
		{src, "f=yes;x=3;y=0;g=yes;c=1;", "error 10"}, {src, "f=yes;x=3;y=0;g=yes;d=yes;", "error 10"}, {src, "f=yes;x=3;y=0;g=yes;r=1;", "error 10"}, {src, "f=yes;x=3;y=0;g=yes;z=1;", "error 10"}, {src, "f=yes;x=3;y=0;c=3;", "error 10"},
	}.ask(t)
}

func TestGuards(t *testing.T) {
	head := "num x 1..5;num y 1..5;flag f;flag g;rule r:c=1 when "
	holds, not := "c 1, r stands", "c -, r idle"
	want := func(is bool) string {
		if is {
			return holds
		}
		return not
	}
	for x := 1; x <= 5; x++ {
		for y := 1; y <= 5; y++ {
			facts := fmt.Sprintf("x=%d;y=%d;f=yes;g=no;", x, y)
			for mark, is := range map[string]bool{"<": x < y, "<=": x <= y, "=": x == y, "!=": x != y, ">=": x >= y, ">": x > y} {
				cases{
					{head + "x" + mark + "y;", facts, want(is)}, {head + "not x" + mark + "y;", facts, want(!is)}, {head + "x" + mark + strconv.Itoa(y) + ";", facts, want(is)}, {head + "not not x" + mark + "y and x=x;", facts, want(is)},
				}.ask(t)
			}
		}
	}
	for _, f := range []string{"yes", "no"} {
		for _, g := range []string{"yes", "no"} {
			facts, a, b := "x=2;y=4;f="+f+";g="+g+";", f == "yes", g == "yes"
			cases{
				{head + "f;", facts, want(a)}, {head + "g;", facts, want(b)}, {head + "not f;", facts, want(!a)}, {head + "f and g;", facts, want(a && b)}, {head + "f or g;", facts, want(a || b)},
				{head + "f or g and not always;", facts, want(a)}, {head + "(f or g) and not always;", facts, not}, {head + "not always and f or g;", facts, want(b)}, {head + "not f and g;", facts, want(!a && b)}, {head + "not(f and g);", facts, want(!(a && b))}, {head + "not(f or g);", facts, want(!a && !b)}, {head + "not not f;", facts, want(a)}, {head + "not f or not g;", facts, want(!a || !b)},
				{head + "f and(g or x<y)and always;", facts, want(a)}, {head + "f and x>y or g and x<y;", facts, want(b)}, {head + "((((f))))and not not not not g;", facts, want(a && b)}, {head + "always;", facts, holds}, {head + "not always or f;", facts, want(a)},
				{head + "f;rule s:d=2 when has c;", facts, map[bool]string{true: "c 1, d 2, r stands, s stands", false: "c -, d -, r idle, s idle"}[a]}, {head + "f;rule s:d=2 when not has c or g;", facts, map[bool]string{true: "c " + strings.TrimPrefix(want(a), "c ")[:1] + ", d 2, " + want(a)[5:] + ", s stands", false: "c 1, d -, r stands, s idle"}[!a || b]},
			}.ask(t)
		}
	}
}

func TestSums(t *testing.T) {
	head := "num x 0..9;num y 0..9999;rule r:c="
	facts := "x=3;y=7;"
	cases{
		{head + "0 when always;", facts, "c 0, r stands"}, {head + "9999 when always;", facts, "c 9999, r stands"}, {head + "x when always;", facts, "c 3, r stands"}, {head + "9*y when always;", facts, "c 63, r stands"}, {head + "0*y when always;", facts, "c 0, r stands"}, {head + "1-2*x-y+9 when always;", facts, "c -3, r stands"}, {head + "x-y-y-y when always;", facts, "c -18, r stands"}, {head + "x+x+x+x when always;", facts, "c 12, r stands"}, {head + "0-9999-9999-9999 when always;", facts, "c -29997, r stands"}, {head + "10-3-2 when always;", facts, "c 5, r stands"}, {head + "10-3+2 when always;", facts, "c 9, r stands"},
		{head + "2*d-d+1 when always;rule s:d=x-2*y when always;", facts, "c -10, d -11, r stands, s stands"}, {head + "x-3*d when always;rule s:d=0-y when always;", facts, "c 24, d -7, r stands, s stands"},
		// A conclusion in a sum counts even if its value does not.
		{head + "0*d+1 when always;rule s:d=1 when x<3;", facts, "c -, d -, r idle, s idle"}, {head + "5+d when always;rule s:d=1 when x<3;", facts, "c -, d -, r idle, s idle"}, {head + "1+d-d when always;rule s:d=1 when always;rule u:d=1 when always;", facts, "c -, d !, r idle, s stands, u stands"}, {head + "d+e when always;rule s:d=1 when always;rule u:e=1 when y<7;", facts, "c -, d 1, e -, r idle, s stands, u idle"},
	}.ask(t)
}

// TestGreatSums has the greatest value that there can be.
func TestGreatSums(t *testing.T) {
	src, verdicts := "num a 0..9999;", ""
	want, value := "", 9999
	for i := 0; i < 8; i++ {
		part := "9*" + string([]byte{byte('a' + i)})
		src += fmt.Sprintf("rule r%c:%c=%s+%s+%s+%s when always;", 'a'+i, 'b'+i, part, part, part, part)
		value *= 36
		want += fmt.Sprintf("%c %d, ", 'b'+i, value)
		verdicts += fmt.Sprintf("r%c stands, ", 'a'+i)
	}
	if value != 28208277964652544 {
		t.Fatalf("the greatest value is made out as %d", value)
	}
	if got := told(t, src, "a=9999;"); got+", " != want+verdicts {
		t.Errorf("P8: the greatest values: %s, want %s", got, want+verdicts)
	}
	less := strings.Replace(src, "b=9*a+9*a+9*a+9*a", "b=0-9*a-9*a-9*a", 1)
	least := ", i -" + strconv.Itoa(value/4*3) + ", "
	if got := told(t, less, "a=9999;"); !strings.Contains(got, least) {
		t.Errorf("P8: a value far below 0: %s, want %s in it", got, least)
	}
}

func TestOrder(t *testing.T) {
	three := "flag a;flag b;flag d;rule r:c=1 when a;rule s:c=2 when b;rule t:c=3 when d;"
	all := "a=yes;b=yes;d=yes;"
	eight, chain, front, back := "", "", "", ""
	for i := 0; i < 8; i++ {
		eight += fmt.Sprintf("rule r%c:c=%d when always;", 'a'+i, i)
		if i > 0 {
			chain += fmt.Sprintf("over r%c r%c;", 'a'+i, 'a'+i-1)
			front += fmt.Sprintf("over ra r%c;", 'a'+i)
		}
		if i < 7 {
			back += fmt.Sprintf("rule r%c:c=%d when always;", 'a'+i, i)
		}
	}
	beaten := "ra beaten, rb beaten, rc beaten, rd beaten, re beaten, rf beaten, rg beaten, "
	cases{
		{three, all, "c !, r stands, s stands, t stands"}, {three, "a=no;b=no;d=no;", "c -, r idle, s idle, t idle"}, {three, "a=no;b=yes;d=no;", "c 2, r idle, s stands, t idle"}, {three, "a=yes;b=no;d=yes;", "c !, r stands, s idle, t stands"},
		{three + "over r s;over s t;", all, "c 1, r stands, s beaten, t beaten"}, {three + "over r s;over s t;", "a=no;b=yes;d=yes;", "c 2, r idle, s stands, t beaten"},
		// A rule is beaten along a chain, even if the one between is idle.
		{three + "over r s;over s t;", "a=yes;b=no;d=yes;", "c 1, r stands, s idle, t beaten"}, {three + "over s t;over r s;", "a=yes;b=no;d=yes;", "c 1, r stands, s idle, t beaten"}, {three + "over t s;over s r;", "a=yes;b=no;d=yes;", "c 3, r beaten, s idle, t stands"},
		// A rule that is beaten beats others all the same.
		{three + "over r s;over s t;", all, "c 1, r stands, s beaten, t beaten"}, {three + "over r t;over s t;", all, "c !, r stands, s stands, t beaten"}, {three + "over r s;over r t;", all, "c 1, r stands, s beaten, t beaten"}, {three + "over t r;", all, "c !, r beaten, s stands, t stands"}, {three + "over t r;over t r;over t s;", all, "c 3, r beaten, s beaten, t stands"},
		{three + "over r s;", "a=no;b=yes;d=no;", "c 2, r idle, s stands, t idle"}, {"over r s;" + three, all, "c !, r stands, s beaten, t stands"},
		// The same sums clash as others do.
		{"rule r:c=1 when always;rule s:c=1 when always;", "", "c !, r stands, s stands"},
		{eight + chain, "", "c 7, " + beaten + "rh stands"}, {back + "rule rh:c=7 when not always;" + chain, "", "c 6, " + strings.Replace(beaten, "rg beaten", "rg stands", 1) + "rh idle"}, {eight + front, "", "c 0, ra stands, " + beaten[len("ra beaten, "):] + "rh beaten"}, {eight, "", "c !, " + strings.ReplaceAll(beaten, "beaten", "stands") + "rh stands"},
	}.ask(t)
}

func TestLevelsInCases(t *testing.T) {
	two := "rule r:c=1 when always;rule s:c=1 when always;"
	down, up, downWant, upWant, rules := "", "rule y:h=1 when always;", "", "h 1, ", ""
	for i := 0; i < 7; i++ {
		down += fmt.Sprintf("rule %c:%c=%c+1 when has %c;", 'r'+i, 'a'+i, 'b'+i, 'b'+i)
		up += fmt.Sprintf("rule %c:%c=%c+1 when has %c;", 'x'-i, 'g'-i, 'h'-i, 'h'-i)
		downWant += fmt.Sprintf("%c %d, ", 'a'+i, 8-i)
		upWant += fmt.Sprintf("%c %d, ", 'g'-i, 2+i)
		rules += fmt.Sprintf("%c stands, ", 'r'+i)
	}
	cases{
		{two + "rule t:d=5 when has c;rule u:d=6 when not has c;rule v:e=c when always;rule w:g=0-d when not has e;", "", "c !, d 6, e -, g -6, r stands, s stands, t idle, u stands, v idle, w stands"},
		{"rule r:c=1 when not always;rule s:d=c+1 when always;rule t:d=7 when always;over s t;", "", "c -, d 7, r idle, s idle, t stands"},
		// One that is idle for its sum beats nothing, and one that stands does.
		{"rule r:c=1 when always;rule s:d=c+1 when always;rule t:d=7 when always;over s t;", "", "c 1, d 2, r stands, s stands, t beaten"},
		{"rule t:d=7 when not has c;rule s:d=c+1 when always;rule r:c=1 when always;", "", "d 2, c 1, t idle, s stands, r stands"},
		{down + "rule y:h=1 when always;", "", downWant + "h 1, " + rules + "y stands"}, {down + "rule y:h=1 when not always;", "", "a -, b -, c -, d -, e -, f -, g -, h -, " + strings.ReplaceAll(rules, "stands", "idle") + "y idle"},
		{up, "", upWant + "y stands, x stands, w stands, v stands, u stands, t stands, s stands, r stands"},
		// A conclusion, a label and an input may have names that cross.
		{"num s 1..9;flag r;rule c:d=s when r;rule d:c=d+s when r;", "s=4;r=yes;", "d 4, c 8, c stands, d stands"},
	}.ask(t)
}

// TestCasesFresh: what a caller writes into a list and behind it changes nothing
// that comes out otherwise (P2).
func TestCasesFresh(t *testing.T) {
	src := "num x 0..9;rule r:c=d+x when always;rule s:d=1 when has e;rule u:e=1 when always;rule v:e=2 when x<5;over v u;"
	base, _ := statute.Load(src, false)
	other, _ := statute.Load(src, false)
	verdicts, _ := base.Weigh("x=4;")
	answers, _ := base.Eval("x=4;")
	wantVerdicts, wantAnswers := slices.Clone(verdicts), slices.Clone(answers)
	wantLevels := slices.Clone(base.Levels())
	for _, b := range []*statute.Base{base, other, base} {
		v, _ := b.Weigh("x=4;")
		for i, room := 0, v[:cap(v)]; i < len(room); i++ {
			room[i] = api.Verdict{Rule: "-", State: -1}
		}
		a, _ := b.Eval("x=4;")
		for i, room := 0, a[:cap(a)]; i < len(room); i++ {
			room[i] = api.Answer{Name: "-", State: -1, Value: -1}
		}
		b.Eval("x=9;")
		b.Weigh("x=9;")
		b.Eval("x=10;")
		b.Weigh("?")
		levels := b.Levels()
		for i, room := 0, levels[:cap(levels)]; i < len(room); i++ {
			room[i] = api.Level{Name: "-", Level: -1}
		}
	}
	for _, b := range []*statute.Base{base, other} {
		v, _ := b.Weigh("x=4;")
		a, _ := b.Eval("x=4;")
		if !slices.Equal(v, wantVerdicts) || !slices.Equal(a, wantAnswers) || !slices.Equal(b.Levels(), wantLevels) {
			t.Errorf("P2: %v, %v, %v, and %v, %v, %v when others were written into", wantVerdicts, wantAnswers, wantLevels, v, a, b.Levels())
		}
	}
	if !slices.Equal(verdicts, wantVerdicts) || !slices.Equal(answers, wantAnswers) {
		t.Errorf("P2: lists became %v, %v when others were written into", verdicts, answers)
	}
}

// TestAnyFacts: Weigh and Eval end and don't panic at any bytes (P1).
func TestAnyFacts(t *testing.T) {
	m := maker{rand.New(rand.NewSource(4))}
	src := "num x 0..9;num yes 0..20;flag no;rule r:c=x when no and x<yes;rule s:c=yes when always;over r s;"
	base, _ := statute.Load(src, false)
	facts := "x=7;\nyes = 10;no=yes;"
	found := map[api.Errno]int{}
	for at := range facts {
		compareCase(t, src, base, facts[:at])
		compareCase(t, src, base, facts[:at]+facts[at+1:])
		for b := 0; b < 256; b++ {
			found[compareCase(t, src, base, facts[:at]+string([]byte{byte(b)})+facts[at:])]++
			found[compareCase(t, src, base, facts[:at]+string([]byte{byte(b)})+facts[at+1:])]++
		}
	}
	pieces := []string{"x", "=", "7", ";", "yes", "no", " ", "\n", "x=7;", "yes=8;", "no=no;", "num", "\xff", "99", "xx"}
	for i := 0; i < 20000; i++ {
		text := ""
		for m.source.Intn(12) > 0 {
			text += strings.Repeat(m.pick(pieces...), 1+m.source.Intn(8)/7)
		}
		if i%50 == 0 {
			text = strings.Repeat(text, m.source.Intn(60))
		}
		found[compareCase(t, src, base, text)]++
	}
	for _, err := range []api.Errno{api.OK, api.ErrLong, api.ErrForm, api.ErrFacts} {
		if found[err] < 20 {
			t.Errorf("only %d of the facts lead to the error %d: %v", found[err], err, found)
		}
	}
	t.Logf("errors: %v", found)
}

// TestAllCases goes through all cases of small rulebooks.
func TestAllCases(t *testing.T) {
	m := maker{rand.New(rand.NewSource(5))}
	verdicts, answers := map[int]int{}, map[int]int{}
	for books := 0; books < 60; {
		src := m.good()
		base, err := statute.Load(src, false)
		if err != api.OK {
			continue
		}
		books++
		for i := 0; i < 120; i++ {
			flags := []string{"yes", "no"}
			facts := fmt.Sprintf("f=%s;g=%s;x=%d;y=%d;", flags[i%2], flags[i/2%2], i/4%10, 1+i/40)
			compareCase(t, src, base, facts)
			list, _ := base.Weigh(facts)
			for _, verdict := range list {
				verdicts[verdict.State]++
			}
			found, _ := base.Eval(facts)
			for _, answer := range found {
				answers[answer.State]++
			}
		}
	}
	for state := 0; state <= 2; state++ {
		if verdicts[state] < 500 || answers[state] < 500 {
			t.Errorf("the state %d comes too seldom: rules %v, conclusions %v", state, verdicts, answers)
		}
	}
	t.Logf("rules: %v, conclusions: %v", verdicts, answers)
}
