package statute_test

import (
	"fmt"
	"strings"
	"testing"

	"statute/api"
	"statute/statute"
)

type checked struct {
	src   string
	err   api.Errno
	place int
}

func look(t *testing.T, list []checked) {
	t.Helper()
	for _, c := range list {
		if e, place := statute.Check(c.src); e != c.err || place != c.place {
			t.Errorf("P4: Check(%.120q) = %d, %d, want %d, %d", c.src, e, place, c.err, c.place)
		}
	}
}

// padded fills a text up with blanks in front.
func padded(src string, length int) string {
	return strings.Repeat(" ", length-len(src)) + src
}

func TestCheckLong(t *testing.T) {
	look(t, []checked{
		{padded(T, 4000), api.OK, 0}, {padded(T, 4001), api.ErrLong, 0},
		{padded("flag a", 4000), api.ErrForm, 4000}, {padded("flag a", 4001), api.ErrLong, 0},
		{padded("?", 4000), api.ErrForm, 3999}, {"?" + strings.Repeat(" ", 4000), api.ErrLong, 0},
		{padded("flag a;flag a;", 4000), api.ErrName, 1}, {padded("flag a;flag a;", 4001), api.ErrLong, 0},
		{strings.Repeat("\xff", 1<<20), api.ErrLong, 0},
	})
}

func TestCheckTokens(t *testing.T) {
	look(t, []checked{
		{"flag abcdefgh;", api.OK, 0}, {"flag  abcdefghi;", api.ErrForm, 6}, {"flag a; numnumnum", api.ErrForm, 8},
		{"num a 999 .. 9999;", api.OK, 0}, {"num a 9999 .. 10000;", api.ErrForm, 14}, {"num a 0 .. 01;", api.ErrForm, 11}, {"num a 00 .. 1;", api.ErrForm, 6}, {"num a 0..0;", api.OK, 0},
		{"num a1..2;", api.OK, 0}, {"num a1 . . 2;", api.ErrForm, 7}, {"num a1...2;", api.ErrForm, 8}, {"flag a!;", api.ErrForm, 6}, {"flag a!=;", api.ErrForm, 6},
		{"flag\ta;", api.ErrForm, 4}, {"flag a;\r", api.ErrForm, 7}, {"flag\na\n;\n", api.OK, 0}, {"Flag a;", api.ErrForm, 0}, {"flag a_b;", api.ErrForm, 6}, {"flag a;\x00", api.ErrForm, 7}, {"flag a\xc3\xa9;", api.ErrForm, 6},
		{"rule r:c=1 when x< =3;", api.ErrForm, 19}, {"rule r:c=1 when x=<3;", api.ErrForm, 18}, {"rule r:c=1 when x! =3;", api.ErrForm, 17}, {"rule r:c=1whenalways;", api.ErrForm, 10}, {"rule r:c=1when always;", api.OK, 0},
	})
	for _, kept := range []string{"num", "flag", "rule", "over", "when", "or", "and", "not", "has", "always"} {
		look(t, []checked{{"flag " + kept + ";", api.ErrForm, 5}, {"flag " + kept + "x;", api.OK, 0}})
	}
}

func TestCheckForm(t *testing.T) {
	look(t, []checked{
		{"flag a", api.ErrForm, 6}, {"flag a  ", api.ErrForm, 8}, {"flag", api.ErrForm, 4}, {"num a 0 ..", api.ErrForm, 10}, {"rule r:c=1 when (a) ", api.ErrForm, 20},
		{"flag a; rule r: c = 1 when a and;", api.ErrForm, 32}, {"flag not;", api.ErrForm, 5}, {"flag a;; x", api.ErrForm, 7}, {"a;", api.ErrForm, 0}, {"3;", api.ErrForm, 0},
		{"num 3 0 .. 1;", api.ErrForm, 4}, {"num a b .. 1;", api.ErrForm, 6}, {"num a 0 : 1;", api.ErrForm, 8}, {"num a 0 .. b;", api.ErrForm, 11}, {"num a 0 .. 1 2;", api.ErrForm, 13}, {"flag a b;", api.ErrForm, 7},
		{"over a 3;", api.ErrForm, 7}, {"over 3 a;", api.ErrForm, 5}, {"over a b c;", api.ErrForm, 9},
		{"rule 1:c=1 when a;", api.ErrForm, 5}, {"rule r=c=1 when a;", api.ErrForm, 6}, {"rule r:1=1 when a;", api.ErrForm, 7}, {"rule r:c:1 when a;", api.ErrForm, 8},
		{"rule r:c=+1 when a;", api.ErrForm, 9}, {"rule r:c=1+ -1 when a;", api.ErrForm, 12}, {"rule r:c=1*1 when a;", api.ErrForm, 11}, {"rule r:c=x*1 when a;", api.ErrForm, 10}, {"rule r:c=1*x*x when a;", api.ErrForm, 12}, {"rule r:c=1 x when a;", api.ErrForm, 11}, {"rule r:c=(1) when a;", api.ErrForm, 9}, {"rule r:c=1+;", api.ErrForm, 11},
		{"rule r:c=1 when;", api.ErrForm, 15}, {"rule r:c=1 when 1;", api.ErrForm, 16}, {"rule r:c=1 when has;", api.ErrForm, 19}, {"rule r:c=1 when has has;", api.ErrForm, 20}, {"rule r:c=1 when has c<1;", api.ErrForm, 21}, {"rule r:c=1 when always<1;", api.ErrForm, 22}, {"rule r:c=1 when a+1;", api.ErrForm, 17}, {"rule r:c=1 when a:1;", api.ErrForm, 17},
		{"rule r:c=1 when a and or b;", api.ErrForm, 22}, {"rule r:c=1 when or b;", api.ErrForm, 16}, {"rule r:c=1 when a not b;", api.ErrForm, 18}, {"rule r:c=1 when a (b);", api.ErrForm, 18}, {"rule r:c=1 when not;", api.ErrForm, 19}, {"rule r:c=1 when not and a;", api.ErrForm, 20}, {"rule r:c=1 when (a;", api.ErrForm, 18}, {"rule r:c=1 when ((a);", api.ErrForm, 20}, {"rule r:c=1 when (a));", api.ErrForm, 19}, {"rule r:c=1 when a);", api.ErrForm, 17}, {"rule r:c=1 when a<;", api.ErrForm, 18}, {"rule r:c=1 when a<not b;", api.ErrForm, 18}, {"rule r:c=1 when a<b<c;", api.ErrForm, 19}, {"rule r:c=1 when 1<a;", api.ErrForm, 16},
		{"rule r:c=1 when " + strings.Repeat("(", 3984), api.ErrForm, 4000}, {"rule r:c=1 when " + strings.Repeat("(", 3983) + ";", api.ErrForm, 3999}, {"rule r:c=1 when " + strings.Repeat("not ", 996), api.ErrForm, 4000},
	})
}

// Each error goes ahead of those that are named behind it, wherever they are.
func TestCheckOrder(t *testing.T) {
	ring := "rule r:c=c when always;"
	name := "flag a;flag a;"
	many := "rule m:d=10*x when always;"
	look(t, []checked{
		{ring, api.ErrRing, 0}, {ring + name, api.ErrName, 2}, {ring + "num n 2..1;", api.ErrRange, 1}, {ring + "over r r;", api.ErrPair, 1},
		{ring + name + many, api.ErrMany, 3}, {ring + name + many + "flag", api.ErrForm, len(ring+name+many) + 4}, {ring + name + many + ",", api.ErrForm, len(ring + name + many)},
		{"over r r;num n 2..1;flag n;rule r:c=1 when always;", api.ErrPair, 0}, {"num n 2..1;over r r;flag n;rule r:c=1 when always;", api.ErrRange, 0}, {"flag n;num n 2..1;over r r;rule r:c=1 when always;", api.ErrName, 1},
		{"over r r;", api.ErrName, 0}, {"over r r;rule r:c=1 when always;rule r:c=1 when always;", api.ErrPair, 0},
	})
}

func TestCheckMany(t *testing.T) {
	rules, overs := "", ""
	for i := 0; i < 8; i++ {
		rules += fmt.Sprintf("rule %c:c=1 when always;", 'a'+i)
		for j := 0; j < i; j++ {
			overs += fmt.Sprintf("over %c %c;", 'a'+j, 'a'+i)
		}
	}
	look(t, []checked{
		{"num a 0..1;num b 0..1;num c 0..1;", api.OK, 0}, {"num a 0..1;num b 0..1;num c 0..1;flag x;num d 0..1;num e 0..1;", api.ErrMany, 4},
		{"flag a;flag b;flag c;", api.OK, 0}, {"flag a;flag b;flag c;num x 0..1;flag d;", api.ErrMany, 4},
		{rules, api.OK, 0}, {rules + "rule i:c=1 when always;", api.ErrMany, 8}, {"flag x;" + rules + "rule i:c=1 when always;", api.ErrMany, 9},
		{rules + overs, api.OK, 0}, {rules + overs + "over a b;", api.ErrMany, 36}, {overs + "over a b;" + rules, api.ErrMany, 28},
		{"rule r:c=1+1-1+1 when always;", api.OK, 0}, {"flag x;rule r:c=1+1-1+1+1 when always;", api.ErrMany, 1},
		{"num x 0..1;rule r:c=1-9*x when always;", api.OK, 0}, {"num x 0..1;rule r:c=1-10*x when always;", api.ErrMany, 1}, {"rule r:c=9999 when always;", api.OK, 0}, {"num x 0..1;rule r:c=0*x when always;", api.OK, 0},
		{"flag a;flag a;flag a;rule r:c=1+1+1+1+1 when always;flag a;", api.ErrMany, 3}, {"flag a;flag a;flag a;flag a;rule r:c=1+1+1+1+1 when always;", api.ErrMany, 3},
	})
	checkGuards(t)
}

func checkGuards(t *testing.T) {
	t.Helper()
	for _, c := range []struct {
		guard string
		err   api.Errno
	}{
		{"a or a or a or a or a or a", api.OK}, {"a or a or a or a or a or a or a", api.ErrMany}, {"a and (a or a) and not (a and a and always)", api.OK}, {"a and (a or a) and not (a and a and always) or x<y", api.ErrMany}, {"has d or has d or x<1 or x<y or always or a", api.OK},
		{"((((a))))", api.OK}, {"(((((a)))))", api.ErrMany}, {"not not not not a", api.OK}, {"not not not not not a", api.ErrMany}, {"not(not(a))", api.OK}, {"not(not((a)))", api.ErrMany}, {"(not(not x<1))", api.OK}, {"(not(not(has d)))", api.ErrMany}, {"not not not not always and ((((a)))) and not((not a))", api.OK}, {"((((a)or(a)or(a))))", api.OK}, {"((((a)or(a)or not(a))))", api.ErrMany}, {"(((a)and((a)))or a)", api.OK}, {"a or (((a and (not a))))", api.ErrMany},
	} {
		place := 0
		if c.err != api.OK {
			place = 4
		}
		look(t, []checked{{"flag a;num x 0..1;num y 0..1;rule s:d=1 when always;rule r:c=1 when " + c.guard + ";", c.err, place}})
	}
}

func TestCheckNames(t *testing.T) {
	look(t, []checked{
		{"num a 0..1;num a 0..1;", api.ErrName, 1}, {"num a 0..1;flag a;", api.ErrName, 1}, {"flag a;num a 0..1;", api.ErrName, 1}, {"flag c;rule r:c=1 when always;", api.ErrName, 0}, {"rule r:c=1 when always;num c 0..1;", api.ErrName, 1}, {"num x 0..1;num c 2..1;rule r:c=1 when always;", api.ErrName, 1},
		{"flag r;rule r:c=1 when r;over r r;", api.ErrPair, 2}, {"flag a;num r 0..1;rule r:c=r when a;rule a:c=r when a;over a r;", api.OK, 0}, {"rule c:c=1 when always;", api.OK, 0}, {"flag yes;flag no;rule r:c=1 when yes or no;", api.OK, 0},
		{"rule r:c=1 when always;flag x;rule r:d=1 when always;", api.ErrName, 2}, {"rule r:c=1 when always;rule s:c=1 when always;", api.OK, 0},
	})
	inputs := "num x 0..1;flag a;rule s:d=1 when always;"
	for _, c := range []struct {
		rule string
		ok   bool
	}{
		{"c=x when always", true}, {"c=d when always", true}, {"c=a when always", false}, {"c=s when always", false}, {"c=z when always", false}, {"c=1+2*x-d when always", true}, {"c=1+x-2*z when always", false}, {"c=1-0*a when always", false},
		{"c=1 when has d", true}, {"c=1 when has x", false}, {"c=1 when has a", false}, {"c=1 when has s", false}, {"c=1 when has z", false},
		{"c=1 when a", true}, {"c=1 when x", false}, {"c=1 when d", false}, {"c=1 when s", false}, {"c=1 when z", false}, {"c=1 when a and (a or not z)", false},
		{"c=1 when x<1", true}, {"c=1 when x=x", true}, {"c=1 when x!=a", false}, {"c=1 when a<=x", false}, {"c=1 when x>d", false}, {"c=1 when d>=x", false}, {"c=1 when z<1", false}, {"c=1 when x<z", false}, {"c=1 when a=1", false},
	} {
		err, place := api.OK, 0
		if !c.ok {
			err, place = api.ErrName, 3
		}
		look(t, []checked{{inputs + "rule r:" + c.rule + ";", err, place}})
		if !c.ok {
			place = 0
		}
		look(t, []checked{{"rule r:" + c.rule + ";" + inputs, err, place}})
	}
}

func TestCheckRangeAndPair(t *testing.T) {
	two := "rule r:c=1 when always;rule s:c=2 when always;rule u:d=1 when always;"
	look(t, []checked{
		{"num a 5..4;", api.ErrRange, 0}, {"num a 5..5;", api.OK, 0}, {"num a 9999..0;", api.ErrRange, 0}, {"num b 0..9;num a 10..9;", api.ErrRange, 1}, {"flag a;num a 5..4;", api.ErrName, 1},
		{two + "over r s;", api.OK, 0}, {two + "over r s;over r s;", api.OK, 0}, {"over s r;" + two, api.OK, 0}, {two + "over r r;", api.ErrPair, 3}, {two + "over r u;", api.ErrPair, 3}, {two + "over u s;", api.ErrPair, 3},
		{two + "over r x;", api.ErrName, 3}, {two + "over x r;", api.ErrName, 3}, {two + "over c d;", api.ErrName, 3}, {two + "over x x;", api.ErrName, 3}, {"flag f;" + two + "over r f;", api.ErrName, 4},
		{"over r s;rule r:c=1 when always;rule s:d=1 when always;rule s:c=1 when always;", api.ErrPair, 0}, {"over r s;rule r:c=1 when always;rule s:c=1 when always;rule s:d=1 when always;", api.ErrName, 3},
	})
}

func TestCheckRings(t *testing.T) {
	rules := "rule r:c=1 when always;rule s:c=2 when always;rule u:c=3 when always;"
	chain, overs := "", ""
	for i := 0; i < 7; i++ {
		chain += fmt.Sprintf("rule %c:%c=%c when always;", 'a'+i, 'a'+i, 'b'+i)
		overs += fmt.Sprintf("over %c %c;", 'a'+i, 'b'+i)
	}
	inputs := "num i 0..1;num j 0..1;num k 0..1;flag l;flag m;flag n;"
	same := ""
	for i := 0; i < 8; i++ {
		same += fmt.Sprintf("rule %c:c=1 when always;", 'a'+i)
	}
	look(t, []checked{
		{"rule r:c=1+2*c when always;", api.ErrRing, 0}, {"rule r:c=1 when not has c;", api.ErrRing, 0}, {"rule r:c=d when always;rule s:d=1 when always or not(has c);", api.ErrRing, 0}, {"rule r:c=d when always;rule s:d=1 when has e;rule u:e=1 when always;", api.OK, 0},
		{"rule r:c=1 when always;rule s:d=c when always;rule u:c=0*d when always;", api.ErrRing, 0}, {"rule r:c=d when has e;rule s:d=e when has e;rule u:e=1 when always;", api.OK, 0},
		{chain + "rule h:h=1 when always;", api.OK, 0}, {chain + "rule h:h=1 when has a;", api.ErrRing, 0}, {chain + "rule h:h=1 when has h;", api.ErrRing, 0}, {chain + "rule h:h=1 when not has e;", api.ErrRing, 0},
		{inputs + chain + "rule h:h=1 when always;", api.OK, 0}, {inputs + chain + "rule h:h=1 when has h;", api.ErrRing, 0}, {inputs + same + overs, api.OK, 0}, {inputs + same + overs + "over h a;", api.ErrRing, 1}, {inputs + same + "over g h;over h g;", api.ErrRing, 1},
		{rules + "over r s;over s r;", api.ErrRing, 1}, {rules + "over r s;over s u;over u r;", api.ErrRing, 1}, {rules + "over u s;over s u;over r s;", api.ErrRing, 1}, {rules + "over r s;over s u;over r u;", api.OK, 0},
		{same + overs, api.OK, 0}, {same + overs + "over h a;", api.ErrRing, 1}, {same + overs + "over h g;", api.ErrRing, 1}, {same + overs + "over a h;", api.OK, 0},
		{"rule r:c=1 when has c;rule s:c=1 when always;over r s;over s r;", api.ErrRing, 0}, {"rule c:d=1 when always;rule d:c=1 when has d;", api.OK, 0}, {"num x 0..1;rule x:c=x when x<1;", api.OK, 0},
	})
}
