package statute_test

import (
	"fmt"
	"math/rand"
	"slices"
	"strings"
	"testing"

	"statute/api"
	"statute/statute"
)

// turned tells whether a list is one of some rings, wherever it begins.
func turned(list []string, rings []string) bool {
	for _, ring := range rings {
		names := strings.Fields(ring)
		for i := range names {
			if slices.Equal(list, append(slices.Clone(names[i:]), names[:i]...)) {
				return true
			}
		}
	}
	return false
}

func TestRing(t *testing.T) {
	rules := "rule r:c=1 when always;rule s:c=2 when always;rule u:c=3 when always;"
	row, same, overs := "", "", ""
	for i := 0; i < 7; i++ {
		row += fmt.Sprintf("rule %c:%c=%c when always;", 'r'+i, 'a'+i, 'b'+i)
		overs += fmt.Sprintf("over %c %c;", 'a'+i, 'b'+i)
	}
	for i := 0; i < 8; i++ {
		same += fmt.Sprintf("rule %c:x=1 when always;", 'a'+i)
	}
	for _, c := range []struct {
		src   string
		rings []string
	}{
		{"rule r: c = d when always; rule s: d = 1 when not has c;", []string{"c d"}},
		{"rule r: c = 1 when always; rule s: c = 2 when always; over r s; over s r;", []string{"r s"}},
		{"rule r:c=1-2*c when always;", []string{"c"}}, {"rule r:c=1 when always or not(not has c);", []string{"c"}}, {"rule r:c=0*c when always;", []string{"c"}},
		{"rule c:d=1 when always;rule d:c=1 when has d and has c;", []string{"c"}}, {"rule r:c=1 when always;rule s:d=c when always;rule u:c=d when always;", []string{"c d"}},
		{"rule r:c=c when has d;rule s:d=c when has d;", []string{"c", "d", "c d"}},
		{"rule r:c=d when always;rule s:d=e when always;rule u:e=c when has d;", []string{"c d e", "d e"}},
		{"rule r:c=d when always;rule s:d=e when always;rule u:e=1 when has e;", []string{"e"}},
		{"num i 0..1;flag j;rule r:c=i when j;rule s:d=e when always;rule u:e=d when always;", []string{"d e"}},
		{"rule r:c=1 when has c;rule s:c=1 when always;over r s;over s r;", []string{"c"}}, {rules + "over r s;over s r;rule v:d=d when always;", []string{"d"}},
		{row + "rule y:h=a when always;", []string{"a b c d e f g h"}}, {row + "rule y:h=d when always;", []string{"d e f g h"}}, {row + "rule y:h=h when always;", []string{"h"}}, {row + "rule y:h=a+g when has c;", []string{"a b c d e f g h", "g h", "c d e f g h"}},
		{rules + "over r s;over s u;over u r;", []string{"r s u"}}, {rules + "over r s;over s u;over u s;", []string{"s u"}}, {rules + "over r u;over u s;over s r;over u r;", []string{"r u s", "r u"}},
		{same + overs + "over h a;", []string{"a b c d e f g h"}}, {same + overs + "over h g;", []string{"g h"}}, {same + overs + "over g b;over h c;", []string{"b c d e f g", "c d e f g h"}}, {"over h g;over g h;" + same, []string{"g h"}},
	} {
		ring, err := statute.Ring(c.src)
		if err != api.OK || !turned(ring, c.rings) {
			t.Errorf("P5: Ring(%q) = %q, %d, want one of %q", c.src, ring, err, c.rings)
		}
		compare(t, c.src)
	}
}

func TestRingErrors(t *testing.T) {
	ring := "rule r:c=c when always;"
	for _, c := range []struct {
		src string
		err api.Errno
	}{
		{"", api.ErrCalm}, {T, api.ErrCalm}, {"rule r:c=1 when always;", api.ErrCalm}, {"rule r:c=d when has e;rule s:d=e when has e;rule u:e=1 when always;", api.ErrCalm}, {"rule r:c=1 when always;rule s:c=1 when always;over r s;over r s;", api.ErrCalm}, {padded(T, 4000), api.ErrCalm},
		{padded(ring, 4000), api.OK}, {padded(ring, 4001), api.ErrLong}, {ring + "flag", api.ErrForm}, {ring + "!", api.ErrForm}, {"rule r:c=c+c+c+c+c when always;", api.ErrMany}, {ring + "flag c;", api.ErrName}, {ring + "rule r:d=1 when always;", api.ErrName}, {ring + "over r s;", api.ErrName}, {ring + "num x 1..0;", api.ErrRange}, {ring + "over r r;", api.ErrPair},
	} {
		list, err := statute.Ring(c.src)
		if err != c.err || (len(list) == 0) != (c.err != api.OK) {
			t.Errorf("P5: Ring(%.90q) = %q, %d, want %d", c.src, list, err, c.err)
		}
	}
}

// TestRingsOfAnyShape makes rules at random arrows, most of which have many rings.
func TestRingsOfAnyShape(t *testing.T) {
	source := rand.New(rand.NewSource(4))
	found := map[int]int{}
	for i := 0; i < 400; i++ {
		src, few := "", 1+source.Intn(12)
		for from := 0; from < 8; from++ {
			words := []string{"1"}
			for to := 0; to < 8 && len(words) < 4; to++ {
				if source.Intn(few) == 0 {
					words = append(words, string(rune('a'+source.Intn(8))))
				}
			}
			name := 'a' + from
			if i%2 == 0 {
				src += fmt.Sprintf("rule r%c:%c=%s when always;", name, name, strings.Join(words, "+"))
				continue
			}
			src += fmt.Sprintf("rule %c:x=1 when always;", name)
			for _, word := range words[1:] {
				if word != string(rune(name)) {
					src += fmt.Sprintf("over %c %s;", name, word)
				}
			}
		}
		compare(t, src)
		ring, _ := statute.Ring(src)
		found[len(ring)]++
	}
	for length := 0; length < 6; length++ {
		if found[length] < 3 {
			t.Errorf("only %d rings of %d: %v", found[length], length, found)
		}
	}
}

// TestRingFresh: what a caller writes into a ring and behind it changes no other (P2).
func TestRingFresh(t *testing.T) {
	for _, src := range []string{"rule r:c=d when always;rule s:d=1 when has c;", "rule r:c=1 when always;rule s:c=1 when always;rule u:c=1 when always;over r s;over s u;over u r;"} {
		first, _ := statute.Ring(src)
		second, _ := statute.Ring(src)
		want := slices.Clone(first)
		for i, room := 0, second[:cap(second)]; i < len(room); i++ {
			room[i] = "-"
		}
		third, _ := statute.Ring(src)
		if !slices.Equal(first, want) || !slices.Equal(third, want) {
			t.Errorf("P2: Ring(%q) = %q, and %q and %q when another was written into", src, want, first, third)
		}
	}
}
