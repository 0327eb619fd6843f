package statute_test

import (
	"fmt"
	"slices"
	"strings"
	"testing"
	"unsafe"

	"statute/api"
	"statute/statute"
)

func TestLoad(t *testing.T) {
	for _, c := range []struct {
		src string
		err api.Errno
	}{
		{"", api.OK}, {" \n", api.OK}, {T, api.OK}, {T + "over free young;", api.OK}, {padded(T, 4000), api.OK}, {"flag a;", api.OK}, {"rule r:c=1 when always;rule s:c=2 when always;", api.OK},
		{padded(T, 4001), api.ErrLong}, {"flag a", api.ErrForm}, {T + "!", api.ErrForm}, {"num a 00..1;", api.ErrForm}, {strings.Repeat("flag a;", 4), api.ErrMany}, {"rule r:c=1+1+1+1+1 when always;", api.ErrMany}, {"flag a;flag a;", api.ErrName}, {"rule r:c=1 when a;", api.ErrName}, {"num a 5..4;", api.ErrRange}, {"rule r:c=1 when always;over r r;", api.ErrPair},
		{"rule r:c=c when always;", api.ErrRing}, {"rule r:c=1 when always;rule s:c=2 when always;over r s;over s r;", api.ErrRing},
	} {
		base, err := statute.Load(c.src, false)
		if err != c.err || (base == nil) != (err != api.OK) {
			t.Errorf("P6: Load(%.90q, false) = %d, a Base: %v, want %d", c.src, err, base != nil, c.err)
		}
		if c.err == api.OK {
			continue
		}
		if base, err := statute.Load(c.src, true); err != c.err || base != nil {
			t.Errorf("P6: Load(%.90q, true) = %d, a Base: %v, want %d", c.src, err, base != nil, c.err)
		}
	}
}

// TestStrictCalm: where no two rules conclude the same or one stands above the
// other, a strict Load has nothing to refuse.
func TestStrictCalm(t *testing.T) {
	for _, src := range []string{"", "flag a;", T + "over free young;", "rule r:c=1 when always;rule s:d=2 when always;"} {
		base, err := statute.Load(src, true)
		if err != api.OK || base == nil {
			t.Errorf("P6: Load(%q, true) = %d, a Base: %v", src, err, base != nil)
		}
	}
}

func TestNoBase(t *testing.T) {
	var none *statute.Base
	failed, _ := statute.Load("flag", false)
	for i, base := range []*statute.Base{none, {}, new(statute.Base), failed} {
		for range 2 {
			if levels := base.Levels(); len(levels) != 0 {
				t.Errorf("P6: Levels of no Base, %d: %v", i, levels)
			}
			for _, facts := range []string{"", "a = 1;", "!", strings.Repeat(" ", 301)} {
				verdicts, err := base.Weigh(facts)
				if len(verdicts) != 0 || err != api.ErrBase {
					t.Errorf("P6: Weigh(%.20q) of no Base, %d: %v, %d", facts, i, verdicts, err)
				}
				answers, err := base.Eval(facts)
				if len(answers) != 0 || err != api.ErrBase {
					t.Errorf("P6: Eval(%.20q) of no Base, %d: %v, %d", facts, i, answers, err)
				}
			}
			loaded, _ := statute.Load(T, false) // changes nothing for the others
			loaded.Levels()
		}
	}
}

// levels writes what Levels tells as a text.
func levels(base *statute.Base) string {
	words := []string{}
	for _, level := range base.Levels() {
		words = append(words, fmt.Sprint(level.Name, " ", level.Level))
	}
	return strings.Join(words, ", ")
}

func TestLevels(t *testing.T) {
	down, up := "", "rule y:h=1 when always;"
	for i := 0; i < 7; i++ {
		down += fmt.Sprintf("rule %c:%c=%c when always;", 'r'+i, 'a'+i, 'b'+i)
		up += fmt.Sprintf("rule %c:%c=1 when has %c;", 'x'-i, 'g'-i, 'h'-i)
	}
	for _, c := range []struct{ src, want string }{
		{"", ""}, {"flag a;num x 0..1;", ""}, {T, "tax 0"},
		{"rule r: c = 1 when always; rule s: e = 2 * d when always; rule t: d = c + 1 when has c;", "c 0, e 2, d 1"},
		{"rule r:c=1 when has d;rule s:d=1 when always;", "c 1, d 0"}, {"rule r:c=0*d when always;rule s:d=1 when always;", "c 1, d 0"}, {"rule r:c=1 when always or not(has d);rule s:d=1 when always;", "c 1, d 0"},
		{"rule r:c=1 when always;rule s:d=1 when always;rule u:c=d when always;", "c 1, d 0"}, {"rule r:c=d when always;rule s:d=1 when always;rule u:c=1 when always;", "c 1, d 0"},
		{"rule r:c=1 when always;rule s:d=1 when always;rule u:d=2 when always;rule v:c=3 when always;", "c 0, d 0"},
		{"rule r:e=c+d when always;rule s:d=c when always;rule u:c=1 when always;", "e 2, d 1, c 0"}, {"rule r:e=d+c when always;rule s:d=c when always;rule u:c=1 when always;", "e 2, d 1, c 0"}, {"rule r:e=c when has d;rule s:d=c when always;rule u:c=1 when always;rule v:f=e when has c;", "e 2, d 1, c 0, f 3"},
		{"num x 0..1;flag f;rule x:c=x when f and x<1;rule f:d=c when x=x;over x x;", ""},
		{"num x 0..1;flag f;rule x:c=x when f and x<1;rule f:d=c when x=x;", "c 0, d 1"}, {"rule d:c=1 when always;rule c:d=1 when has c;", "c 0, d 1"},
		{down + "rule y:h=1 when always;", "a 7, b 6, c 5, d 4, e 3, f 2, g 1, h 0"}, {up, "h 0, g 1, f 2, e 3, d 4, c 5, b 6, a 7"},
		{"num i 0..1;num j 0..1;num k 0..1;flag l;flag m;flag n;" + down + "rule y:h=i when l;", "a 7, b 6, c 5, d 4, e 3, f 2, g 1, h 0"},
		{"rule r:c=1 when always;rule s:c=2 when always;rule u:c=3 when always;over r s;over s u;", "c 0"},
	} {
		base, _ := statute.Load(c.src, false)
		if got := levels(base); got != c.want {
			t.Errorf("P7: Levels of %q: %s, want %s", c.src, got, c.want)
		}
		compare(t, c.src)
	}
}

// TestLevelsFresh: a Base is not changed by what a caller writes into a list and
// behind it, nor by another Base (P2).
func TestLevelsFresh(t *testing.T) {
	src := "rule r:c=d+e when always;rule s:d=1 when has e;rule u:e=1 when always;"
	base, _ := statute.Load(src, false)
	other, _ := statute.Load(src, false)
	first := base.Levels()
	want := slices.Clone(first)
	for _, b := range []*statute.Base{base, other} {
		list := b.Levels()
		for i, room := 0, list[:cap(list)]; i < len(room); i++ {
			room[i] = api.Level{Name: "-", Level: -1}
		}
	}
	statute.Load(T, false)
	statute.Ring(src)
	if second, third := base.Levels(), other.Levels(); !slices.Equal(first, want) || !slices.Equal(second, want) || !slices.Equal(third, want) {
		t.Errorf("P2: Levels = %v, and %v, %v and %v when others were written into", want, first, second, third)
	}
}

// TestTextNotKept: no name that comes out of a Base lies in the text that it was
// loaded from.
func TestTextNotKept(t *testing.T) {
	src := strings.Clone(T)
	base, _ := statute.Load(src, false)
	facts := strings.Clone("age=20;pay=500;vet=yes;")
	answers, _ := base.Eval(facts)
	verdicts, _ := base.Weigh(facts)
	names := []string{base.Levels()[0].Name, answers[0].Name}
	for _, verdict := range verdicts {
		names = append(names, verdict.Rule)
	}
	from := uintptr(unsafe.Pointer(unsafe.StringData(src)))
	for _, name := range names {
		at := uintptr(unsafe.Pointer(unsafe.StringData(name)))
		if from <= at && at < from+uintptr(len(src)) {
			t.Errorf("P2: the name %q lies in the text", name)
		}
	}
}
