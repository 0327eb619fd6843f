package statute_test

import (
	"fmt"
	"math/rand"
	"slices"
	"strings"
	"testing"

	"statute/api"
	"statute/statute"
)

// clashOf writes what Clash tells as a text: the labels, or the error.
func clashOf(src string) string {
	labels, _, err := statute.Clash(src)
	if err != api.OK {
		return fmt.Sprint("error ", err)
	}
	return strings.Join(labels, " ")
}

const calm = "error 9"

func TestClashExamples(t *testing.T) {
	for _, c := range []struct{ src, want string }{
		{T, "young free"}, {T + "over free young;", calm}, {T + "over young free;", calm}, {"", calm}, {"flag a;num b 0..9;", calm},
		{"num x 1 .. 3; num y 3 .. 5; rule r: c = 1 when x >= y; rule s: c = 2 when y != 3;", calm},
		{"num x 1 .. 4; num y 3 .. 5; rule r: c = 1 when x >= y; rule s: c = 2 when y != 3;", "r s"},
	} {
		if got := clashOf(c.src); got != c.want {
			t.Errorf("P9: Clash(%q): %s, want %s", c.src, got, c.want)
		}
		compare(t, c.src)
	}
	_, setting, _ := statute.Clash(T)
	if len(setting) != 4 || setting[0].Name != "age" || setting[0].Value >= 25 || setting[1].Name != "pay" || setting[1].Value > 1000 || setting[2] != (api.Setting{Name: "vet", Value: 1}) || setting[3].Name != "tax" {
		t.Errorf("P9: Clash(T) shows %v", setting)
	}
}

// guards are guards of two rules that conclude the same.
type guards []struct{ one, two string }

func (list guards) ask(t *testing.T, inputs, want string) {
	t.Helper()
	for _, c := range list {
		for _, pair := range [][2]string{{c.one, c.two}, {c.two, c.one}} {
			src := inputs + "rule r:c=1 when " + pair[0] + ";rule s:c=2 when " + pair[1] + ";rule a:d=1 when always;rule b:e=1 when always;"
			if got := clashOf(src); got != want {
				t.Errorf("P9: Clash with %q and the guards %q, %q: %s, want %s", inputs, pair[0], pair[1], got, want)
			}
			compare(t, src)
		}
	}
}

func TestClashOfOneNum(t *testing.T) {
	wide := "num x 0..9999;"
	guards{
		{"x<1", "x=0"}, {"x>9998", "x=9999"}, {"x>=9999", "x<=9999"}, {"x!=0", "x<2"}, {"x!=9999", "x>9997"}, {"x>4", "x<6"}, {"x>=5", "x<=5"}, {"x!=5", "x>4 and x<7"}, {"not x<5", "not x>5"}, {"not x=5", "x=4"}, {"x<3 or x>9000", "x>5"}, {"x=x", "x<=x and x>=x"},
		{"x!=1 and x!=2 and x!=3 and x!=4 and x!=5 and x!=6", "x!=8 and x!=9 and x>0 and x<10"},
	}.ask(t, wide, "r s")
	guards{
		{"x<0", "always"}, {"x>9999", "always"}, {"x<1", "x!=0"}, {"x>9998", "x!=9999"}, {"x>4", "x<5"}, {"x>4", "x<6 and x!=5"}, {"x>=5", "x<5"}, {"not x<5", "not x>=5"}, {"x=5", "not x=5"}, {"x=5", "x=6"}, {"x<3 or x>9000", "x>=3 and not x>9000"}, {"x<x", "always"}, {"x!=x", "always"}, {"x>x or x!=x", "x=x"},
		{"x!=1 and x!=2 and x!=3 and x!=4 and x!=5 and x!=6", "x!=7 and x!=8 and x!=9 and x>0 and x<10"},
	}.ask(t, wide, calm)
	guards{{"x=7", "x<=7"}, {"x!=6", "x>=7"}, {"x<9999", "x>0"}}.ask(t, "num x 7..7;", "r s")
	guards{{"x!=7", "always"}, {"x<7", "always"}, {"x>7", "always"}, {"x=6 or x=8", "always"}}.ask(t, "num x 7..7;", calm)
}

func TestClashOfNums(t *testing.T) {
	chain := "x<y and y<z"
	guards{{chain, "always"}, {"x!=y and y!=z and x!=z", "y>x"}, {"x!=y and x!=z", "y=z and x>y"}, {"x=0", chain}, {"x>y and y>z", "x=2"}}.ask(t, "num x 0..2;num y 0..2;num z 0..2;", "r s")
	guards{{chain, "x!=0"}, {chain, "z!=2"}, {chain, "y!=1"}, {"x!=y and y!=z and x!=z", "x=1 and y!=0 and z!=0"}, {chain, "z<x"}, {chain, "z<=x"}, {"x<=y and y<=z and z<=x", "x!=y"}, {"x=y and y=z", "x!=z"}, {"x>=y and z<=y", "x<z"}}.ask(t, "num x 0..2;num y 0..2;num z 0..2;", calm)
	guards{{chain, "always"}, {"x!=y and y!=z and x!=z", "always"}}.ask(t, "num x 0..1;num y 0..1;num z 0..1;", calm)
	guards{{chain, "x>5000 and z<5004"}, {chain, "x=9997"}, {"x=y", "y=z and z!=0 and z<2"}, {"x!=y and y!=z", "x=z and x>=9998"}}.ask(t, "num x 0..9999;num y 0..9999;num z 0..9999;", "r s")
	guards{{chain, "x>5000 and z<5003"}, {chain, "x>9997"}, {chain, "z<2"}, {"x=y and x<4", "y=z and z>3"}, {"x!=y and y!=z and x!=z", "x>9997 and y>9997 and z>9997"}}.ask(t, "num x 0..9999;num y 0..9999;num z 0..9999;", calm)
	// The ranges alone keep the nums apart, or leave them one number.
	guards{{"x<y", "always"}, {"x<=y and z>y", "x=5 or z=40"}, {"x!=y", "x=5"}}.ask(t, "num z 5..40;num x 1..5;num y 5..9;", "r s")
	guards{{"x>y", "always"}, {"x>=y", "x!=5"}, {"x>=y", "z=x and z!=y"}, {"x=y", "y>5"}, {"z<x and x<y", "always and z>4"}}.ask(t, "num z 5..40;num x 1..5;num y 5..9;", calm)
	guards{{"x>z", "z>y"}, {"z=y", "x!=z"}}.ask(t, "num x 9999..9999;num y 0..0;num z 0..9999;", "r s")
	guards{{"z<y", "always"}, {"z>x", "always"}, {"x<=y", "always"}, {"y=z and z=x", "always"}}.ask(t, "num x 9999..9999;num y 0..0;num z 0..9999;", calm)
}

func TestClashOfFlagsAndConclusions(t *testing.T) {
	flags := "flag f;num x 0..9;flag g;flag h;"
	guards{{"f", "f"}, {"f", "not g"}, {"f and g and h", "f or not g"}, {"f or g", "not f and not h"}, {"has d", "has e"}, {"has d", "not has e"}, {"not has d", "not has e"}, {"has d or f", "not has d"}, {"not (not (f))", "f"}, {"not (f and x>3)", "f"}, {"f and g or h and has d", "not f and x=9"}, {"always", "always"}, {"not not always", "f or not f"}}.ask(t, flags, "r s")
	guards{{"f", "not f"}, {"f and g and h", "not (f and h)"}, {"f or g", "not f and not g"}, {"has d", "not has d"}, {"has d and has e", "not has e or not has d"}, {"not (has d or f)", "f or has d"}, {"f and not f", "always"}, {"always", "not always"}, {"f and g or h and has d", "not f and (not h or not has d)"}, {"f and x>3", "not f or x<=3"}, {"not(f and(g or not x<5))", "f and x>=5"}}.ask(t, flags, calm)
}

// TestClashOfSums: a rule would apply only where the conclusions in its sum have
// values; no case need lead to them.
func TestClashOfSums(t *testing.T) {
	d := "rule a:d=1 when not always;rule b:e=1 when always;rule n:e=2 when always;over b n;"
	for _, c := range []struct{ src, want string }{
		{d + "rule r:c=d when always;rule s:c=1 when always;", "r s"}, {d + "rule r:c=d when always;rule s:c=1 when not has d;", calm}, {d + "rule s:c=1 when not has d;rule r:c=2+3*d when always;", calm}, {d + "rule r:c=0*d when always;rule s:c=1 when not has d;", calm}, {d + "rule r:c=1-d when always;rule s:c=e when has d;", "r s"}, {d + "rule r:c=d when always;rule s:c=e when not has d or not has e;", calm}, {d + "rule r:c=d when not has d;rule s:c=1 when always;", calm}, {d + "rule r:c=d+e when has e;rule s:c=1 when has d and has e;", "r s"},
		{"num x 0..9;rule r:c=x when x<5;rule s:c=2*x when x>5;", calm}, {"num x 0..9;rule r:c=x when x<6;rule s:c=x when x>4;", "r s"},
		// The same sum clashes too, and a conclusion that no case leads to may have a value.
		{"rule r:c=1 when always;rule s:c=1 when always;", "r s"}, {"rule a:d=1 when not always;rule r:c=1 when has d;rule s:c=2 when has d;", "r s"}, {"rule a:d=1 when always;rule r:c=1 when not has d;rule s:c=2 when not has d;", "r s"}, {"rule a:d=1 when always;rule b:e=1 when not has d;rule r:c=1 when has d;rule s:c=2 when has e;", "r s"},
	} {
		if got := clashOf(c.src); got != c.want {
			t.Errorf("P9: Clash(%q): %s, want %s", c.src, got, c.want)
		}
		compare(t, c.src)
	}
}

func TestClashPairs(t *testing.T) {
	three := "rule r:c=1 when always;rule s:c=2 when always;rule u:c=3 when always;"
	eight, overs := "", ""
	for i := 0; i < 8; i++ {
		eight += fmt.Sprintf("rule %c:x=%d when always;", 'a'+i, i)
		for j := i + 1; j < 8; j++ {
			overs += fmt.Sprintf("over %c %c;", 'h'-i, 'h'-j)
		}
	}
	for _, c := range []struct{ src, want string }{
		{three, "r s"}, {three + "over r s;", "r u"}, {three + "over s r;", "r u"}, {three + "over u r;over s r;", "s u"}, {three + "over r s;over s u;", calm}, {three + "over u s;over s r;", calm}, {three + "over r u;over s u;", "r s"}, {"over s r;over u s;" + three, calm},
		{eight, "a b"}, {eight + overs, calm}, {eight + strings.Replace(overs, "over h g;", "", 1), "g h"}, {eight + strings.Replace(overs, "over b a;", "", 1), "a b"}, {eight + "over a b;over a c;over a d;over a e;over a f;over a g;", "a h"}, {eight + "over a b;over b c;over c d;over d e;over e f;over f g;over g h;", calm}, {eight + "over h g;over g f;over f e;over e d;over d c;over c b;", "a b"},
		{eight + strings.Replace(overs, "over f c;", "", 1), calm}, // f over d over c
		// The earlier rule decides, then the later one, whatever they conclude.
		{"rule r:c=1 when always;rule s:d=1 when always;rule u:d=2 when always;rule v:c=2 when always;", "r v"}, {"rule r:c=1 when not always;rule s:d=1 when always;rule u:d=2 when always;rule v:c=2 when always;", "s u"}, {"rule r:c=1 when always;rule s:d=1 when always;rule u:e=2 when always;", calm},
		{"flag f;rule r:c=1 when f;rule s:c=2 when not f;rule u:c=3 when f;rule v:c=4 when f;", "r u"}, {"flag f;rule z:c=1 when f;rule y:c=2 when not f;rule a:c=3 when not f;", "y a"},
		// Labels may be like names of inputs and conclusions.
		{"flag r;rule r:c=1 when r;rule c:c=2 when r;", "r c"}, {"num c 0..9;rule r:d=1 when c>3;rule c:d=2 when c<5;rule d:d=3 when c<4;", "r c"}, {"rule eightlet:c=1 when always;rule eightleu:c=1 when always;", "eightlet eightleu"},
	} {
		if got := clashOf(c.src); got != c.want {
			t.Errorf("P9: Clash(%q): %s, want %s", c.src, got, c.want)
		}
		compare(t, c.src)
	}
}

// TestClashSetting: every input in the order of the lines, wherever they stand,
// then every conclusion in its order, those too that no rule of the two names.
func TestClashSetting(t *testing.T) {
	src := "rule a:d=1 when always;flag h;num z 4..4;rule r:c=e when x=7 and not f;num x 0..9999;rule s:c=2 when h and has d and y>x;flag f;rule b:e=1 when not has g;rule n:g=1 when always;num y 0..8;flag k;"
	want := []api.Setting{{Name: "h", Value: 1}, {Name: "z", Value: 4}, {Name: "x", Value: 7}, {Name: "f", Value: 0}, {Name: "y", Value: 8}, {Name: "k"}, {Name: "d", Value: 1}, {Name: "c"}, {Name: "e", Value: 1}, {Name: "g"}}
	_, got, err := statute.Clash(src)
	for i, x := range got {
		if i < len(want) && (x.Name == "k" || x.Name == "c" || x.Name == "g") && (x.Value == 0 || x.Value == 1) {
			want[i].Value = x.Value // as one likes
		}
	}
	if err != api.OK || !slices.Equal(got, want) {
		t.Errorf("P9: Clash(%q) shows %v, %d, want %v", src, got, err, want)
	}
	compare(t, src)
}

func TestClashErrors(t *testing.T) {
	two := "rule r:c=1 when always;rule s:c=2 when always;"
	for _, c := range []struct {
		src string
		err api.Errno
	}{
		{padded(two, 4000), api.OK}, {padded(two, 4001), api.ErrLong}, {two + "flag", api.ErrForm}, {two + "!", api.ErrForm}, {two + "rule u:c=1+1+1+1+1 when always;", api.ErrMany}, {two + "rule u:c=1 when not not not not not always;", api.ErrMany}, {two + "flag c;", api.ErrName}, {two + "rule r:d=1 when always;", api.ErrName}, {two + "over r u;", api.ErrName}, {two + "num x 1..0;", api.ErrRange}, {two + "over r r;", api.ErrPair}, {two + "rule u:d=d when always;", api.ErrRing}, {two + "rule u:c=3 when always;over r u;over u r;", api.ErrRing},
		{padded("flag f;", 4000), api.ErrCalm}, {"rule r:c=1 when always;", api.ErrCalm},
	} {
		labels, setting, err := statute.Clash(c.src)
		if err != c.err || len(labels) != 2 && err == api.OK || len(labels)+len(setting) != 0 && err != api.OK {
			t.Errorf("P9: Clash(%.90q) = %q, %v, %d, want %d", c.src, labels, setting, err, c.err)
		}
		checked, _ := refCheck(c.src)
		compareClash(t, c.src, checked)
	}
}

// TestClashFresh: what a caller writes into a list and behind it changes nothing
// that comes out otherwise (P2).
func TestClashFresh(t *testing.T) {
	base, _ := statute.Load(T, false)
	labels, setting, _ := statute.Clash(T)
	wantLabels, wantSetting, wantLevels := slices.Clone(labels), slices.Clone(setting), base.Levels()
	other, list, _ := statute.Clash(T)
	for i, room := 0, other[:cap(other)]; i < len(room); i++ {
		room[i] = "-"
	}
	for i, room := 0, list[:cap(list)]; i < len(room); i++ {
		room[i] = api.Setting{Name: "-", Value: -1}
	}
	statute.Clash("rule r:c=1 when always;rule s:c=2 when always;")
	statute.Load(T, true)
	againLabels, againSetting, _ := statute.Clash(T)
	if !slices.Equal(labels, wantLabels) || !slices.Equal(againLabels, wantLabels) || !slices.Equal(setting, wantSetting) || !slices.Equal(againSetting, wantSetting) || !slices.Equal(base.Levels(), wantLevels) {
		t.Errorf("P2: Clash(T) = %q, %v, and %q, %v and %q, %v when another was written into", wantLabels, wantSetting, labels, setting, againLabels, againSetting)
	}
}

// rival is a guard about three nums, few numbers, a flag and a conclusion.
func (m maker) rival(numbers []string) string {
	out := ""
	for tests := 1 + m.source.Intn(6); tests > 0; tests-- {
		num, mark := m.pick("x", "y", "z"), m.pick("<", "<=", "=", "!=", ">=", ">")
		test := m.pick(num+mark+m.pick("x", "y", "z"), num+mark+m.pick("x", "y", "z"), num+mark+m.pick(numbers...), num+mark+m.pick(numbers...), num+mark+m.pick(numbers...), "f", "has d")
		out += m.pick("", "", "", "not ") + test
		if tests > 1 {
			out += m.pick(" and ", " and ", " and ", " or ")
		}
	}
	return m.pick(out, out, "not ("+out+")")
}

// TestClashOfDrawnGuards draws guards of two rules, with ranges that are short,
// that are long, and that meet at their ends.
func TestClashOfDrawnGuards(t *testing.T) {
	m := maker{rand.New(rand.NewSource(8))}
	for _, c := range []struct {
		inputs  string
		numbers []string
	}{
		{"num x 0..3;num y 0..3;num z 0..3;flag f;", []string{"0", "1", "2", "3", "4"}}, {"num x 0..1;flag f;num y 0..2;num z 1..2;", []string{"0", "1", "2"}}, {"num x 9996..9999;num y 9998..9999;num z 9990..9997;flag f;", []string{"9996", "9997", "9998", "9999"}},
		{"num x 5..5;num y 4..6;flag f;num z 3..7;", []string{"3", "4", "5", "6", "7"}}, {"num x 0..9999;num y 0..9999;num z 0..9999;flag f;", []string{"500", "502"}}, {"num x 0..500;num y 500..9999;num z 499..501;flag f;", []string{"0", "500", "9999"}},
	} {
		found := map[api.Errno]int{}
		for i := 0; i < 1500; i++ {
			src := c.inputs + "rule a:d=1 when always;rule r:c=" + m.pick("1", "1", "x", "d") + " when " + m.rival(c.numbers) + ";rule s:c=" + m.pick("1", "1", "d+y") + " when " + m.rival(c.numbers) + ";"
			found[compareClash(t, src, api.OK)]++
		}
		if found[api.OK] < 300 || found[api.ErrCalm] < 300 {
			t.Errorf("with %q too few can clash, or can't: %v", c.inputs, found)
		}
		t.Logf("%v", found)
	}
}

// TestNoClashBehindStrict goes through all cases of small rulebooks: of a Base
// that was loaded strictly no conclusion clashes, and where one of another does
// Clash finds two rules (P10).
func TestNoClashBehindStrict(t *testing.T) {
	m := maker{rand.New(rand.NewSource(9))}
	strict, clashing := 0, 0
	for i := 0; i < 6000; i++ {
		src := m.ordered(m.good())
		base, err := statute.Load(src, false)
		if err != api.OK {
			continue
		}
		clashes := hasClash(base)
		_, _, clashErr := statute.Clash(src)
		strictBase, strictErr := statute.Load(src, true)
		if clashes && (clashErr != api.OK || strictErr != api.ErrClash) {
			t.Errorf("P10: a case of %q clashes, but Clash = %d, Load(.., true) = %d", src, clashErr, strictErr)
		}
		if strictBase != nil && hasClash(strictBase) {
			t.Errorf("P10: a case of %q clashes, of a Base that was loaded strictly", src)
		}
		if clashes {
			clashing++
		}
		if strictBase != nil {
			strict++
		}
	}
	if strict < 50 || clashing < 50 {
		t.Errorf("too few are loaded strictly, or clash: %d, %d", strict, clashing)
	}
	t.Logf("loaded strictly: %d, clashing: %d", strict, clashing)
}

// ordered puts most rules over the later ones that conclude the same.
func (m maker) ordered(src string) string {
	lines := refLines(refTokens(src))
	for i, upper := range lines {
		for _, lower := range lines[i+1:] {
			if upper[0] == "rule" && lower[0] == "rule" && upper[3] == lower[3] && m.source.Intn(4) > 0 {
				src += "over " + upper[1] + " " + lower[1] + ";"
			}
		}
	}
	return src
}

// hasClash tells whether a conclusion clashes in a case of a rulebook that the
// maker calls good.
func hasClash(base *statute.Base) bool {
	for i := 0; i < 120; i++ {
		flags := []string{"yes", "no"}
		answers, _ := base.Eval(fmt.Sprintf("f=%s;g=%s;x=%d;y=%d;", flags[i%2], flags[i/2%2], i/4%10, 1+i/40))
		for _, answer := range answers {
			if answer.State == api.Clashes {
				return true
			}
		}
	}
	return false
}

// TestStrictBase: a Base that was loaded strictly is like another.
func TestStrictBase(t *testing.T) {
	src := T + "over free young;"
	strict, _ := statute.Load(src, true)
	base, _ := statute.Load(src, false)
	if !slices.Equal(strict.Levels(), base.Levels()) {
		t.Errorf("P6: Levels %v, and %v of a strict Base", base.Levels(), strict.Levels())
	}
	for _, facts := range []string{"age=20;pay=500;vet=yes;", "age=20;pay=500;vet=no;", "age=30;pay=500;vet=no;", "age=121;pay=500;vet=no;", "", "!"} {
		compareCase(t, src, strict, facts)
	}
}

// TestClashEnds: rulebooks that are as great as can be, and calm, are gone through
// to the end (P1).
func TestClashEnds(t *testing.T) {
	inputs := "num x 0..9999;num y 0..9999;num z 0..9999;flag f;flag g;flag h;"
	same, mixed := inputs, inputs
	for i := 0; i < 8; i++ {
		same += fmt.Sprintf("rule %c:c=1 when not (x!=%d and y!=%d and z!=%d and x!=%d and y!=%d) and x>9999;", 'r'+i, 5000+i, 5000+i, 5000+i, 6000-i, 6000-i)
	}
	for i := 0; i < 4; i++ {
		mixed += fmt.Sprintf("rule %c:%c=1 when always;", 'i'+i, 'i'+i)
		mixed += fmt.Sprintf("rule %c:c=1 when %s and x<x;", 'r'+i, []string{"f and g and has i and y!=5000 and x!=5000", "h and has j and has k and z!=5000 and y!=5000", "f and has l and z!=5000 and x!=5000 and y!=5000", "has i and has l and g and z!=5000 and y!=5001"}[i])
	}
	for _, src := range []string{same, mixed} {
		if got := clashOf(src); got != calm {
			t.Errorf("P9: Clash(%q): %s, want %s", src, got, calm)
		}
	}
}
