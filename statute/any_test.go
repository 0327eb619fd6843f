package statute_test

import (
	"fmt"
	"math/rand"
	"slices"
	"strconv"
	"strings"
	"testing"

	"statute/api"
	"statute/statute"
)

// compare puts a text to the calls and to the reference, and tells Check's error.
func compare(t *testing.T, src string) api.Errno {
	t.Helper()
	err, place := statute.Check(src)
	if e, p := refCheck(src); err != e || place != p {
		t.Errorf("P4: Check(%q) = %d, %d, want %d, %d", src, err, place, e, p)
	}
	text, tidyErr := statute.Tidy(src)
	if s, e := refTidy(src); text != s || tidyErr != e {
		t.Errorf("P3: Tidy(%q) = %q, %d, want %q, %d", src, text, tidyErr, s, e)
	}
	if tidyErr == api.OK && len(text) <= api.MaxText {
		tidyAgain(t, text, err, place)
	}
	compareRing(t, src)
	compareLoad(t, src, err)
	return err
}

func compareRing(t *testing.T, src string) {
	t.Helper()
	ring, err := statute.Ring(src)
	if e, ok := refRing(src, ring); err != e || !ok {
		t.Errorf("P5: Ring(%q) = %q, %d, want the error %d", src, ring, err, e)
	}
}

// compareLoad knows Check's error of the text.
func compareLoad(t *testing.T, src string, checked api.Errno) {
	t.Helper()
	compareClash(t, src, checked)
	base, err := statute.Load(src, false)
	if (base == nil) != (err != api.OK) || err != checked {
		t.Errorf("P6: Load(%q, false) = %d, a Base: %v, want %d", src, err, base != nil, checked)
	}
	if base == nil {
		return
	}
	if got, want := base.Levels(), refLevels(src); !slices.Equal(got, want) {
		t.Errorf("P7: Levels of %q = %v, want %v", src, got, want)
	}
	compareCases(t, src, base)
}

// compareClash knows Check's error of the text, and tells Clash's.
func compareClash(t *testing.T, src string, checked api.Errno) api.Errno {
	t.Helper()
	lines, pair := refLines(refTokens(src)), []string(nil)
	want, strictWant := checked, checked
	if checked == api.OK {
		pair, want = refClash(lines), api.ErrCalm
		if pair != nil {
			want, strictWant = api.OK, api.ErrClash
		}
	}
	labels, setting, err := statute.Clash(src)
	if err != want || !slices.Equal(labels, pair) {
		t.Errorf("P9: Clash(%q) = %q, %v, %d, want %q, %d", src, labels, setting, err, pair, want)
	}
	if err != api.OK && len(setting) > 0 || err == api.OK && !refIsSetting(lines, setting, labels) {
		t.Errorf("P9: Clash(%q) = %q, %d, and the setting %v", src, labels, err, setting)
	}
	strict, err := statute.Load(src, true)
	if err != strictWant || (strict == nil) != (err != api.OK) {
		t.Errorf("P6: Load(%q, true) = %d, a Base: %v, want %d", src, err, strict != nil, strictWant)
	}
	return want
}

// tidyAgain asks that a tidy text stays as it is, and that no error comes by
// tidying: only limits of a guard may be met where they were not.
func tidyAgain(t *testing.T, text string, err api.Errno, place int) {
	t.Helper()
	if again, e := statute.Tidy(text); again != text || e != api.OK {
		t.Errorf("P3: Tidy(%q), tidy already, = %q, %d", text, again, e)
	}
	if e, p := statute.Check(text); err != api.ErrMany && (e != err || p != place) {
		t.Errorf("P4: Check(%q) = %d, %d, but %d, %d ahead of Tidy", text, e, p, err, place)
	}
}

// TestShortRows goes through all rows of few tokens behind some beginnings.
func TestShortRows(t *testing.T) {
	words := []string{"num", "flag", "rule", "over", "when", "or", "and", "not", "has", "always", ":", "=", "..", ";", "(", ")", "<", "!=", "+", "-", "*", "a", "7", "00", "!"}
	for _, head := range []string{"", "flag a", "num a 1", "num a 1 ..", "rule r", "rule r : c = ", "rule r : c = 1", "rule r : c = a", "rule r : c = 1 when", "rule r : c = 1 when a", "rule r : c = 1 when (", "rule r : c = 1 when ( not a", "rule r : c = 1 when a <", "rule r : c = 1 when a < a", "over a"} {
		for _, x := range words {
			for _, y := range words {
				compare(t, head+" "+x+" "+y)
				compare(t, head+" "+x+" "+y+";")
			}
		}
	}
}

// TestOneByteOff puts every byte at every place of a text, and cuts it everywhere.
func TestOneByteOff(t *testing.T) {
	src := "num x 0..9;flag v;rule a:c=2*x when not(x<=3 or v);rule b:c=1 when v;over b a;"
	for at := range src {
		compare(t, src[:at])
		compare(t, src[:at]+src[at+1:])
		for _, b := range []byte("\x00\t\n\r !.;:=<>()+-*09azA{\x7f\x80\xff") {
			compare(t, src[:at]+string([]byte{b})+src[at:])
			compare(t, src[:at]+string([]byte{b})+src[at+1:])
		}
	}
}

// TestAnyBytes: calls end and don't panic, and with an error there is nothing
// else (P1).
func TestAnyBytes(t *testing.T) {
	source := rand.New(rand.NewSource(1))
	for i := 0; i < 3000; i++ {
		bytes := make([]byte, source.Intn(30))
		source.Read(bytes)
		compare(t, string(bytes))
	}
	pieces := []string{"(", ")", "not ", "rule r:c=1 when ", "a", " and ", " or ", ";", "has c", "..", "<", "\xff", "9", "flag a;", "num a 1..2;", "over a b;", "+", "*", "\n"}
	for i := 0; i < 300; i++ {
		text := strings.Repeat("rule r:c=1 when ", source.Intn(2))
		for piece := 0; piece < 4; piece++ {
			text += strings.Repeat(pieces[source.Intn(len(pieces))], source.Intn(1500))
		}
		err, place := statute.Check(text)
		out, tidyErr := statute.Tidy(text)
		ring, ringErr := statute.Ring(text)
		base, loadErr := statute.Load(text, false)
		labels, setting, clashErr := statute.Clash(text)
		if clashErr != api.OK && len(labels)+len(setting) > 0 || err != api.OK && clashErr != err {
			t.Errorf("P1: %.60q, %d bytes: Clash %q, %v, %d, Check %d", text, len(text), labels, setting, clashErr, err)
		}
		if (ringErr != api.OK && len(ring) > 0) || loadErr != err || (base == nil) != (err != api.OK) {
			t.Errorf("P1: %.60q, %d bytes: Ring %q, %d, Load %d, Check %d", text, len(text), ring, ringErr, loadErr, err)
		}
		if (tidyErr != api.OK && out != "") || (tidyErr == api.ErrForm) != (err == api.ErrForm) || (err == api.ErrLong) != (len(text) > api.MaxText) || place < 0 || place > len(text) {
			t.Errorf("P1: %.60q, %d bytes: Check %d, %d, Tidy %.60q, %d", text, len(text), err, place, out, tidyErr)
		}
	}
}

// maker makes texts that are rulebooks, or nearly so.
type maker struct{ source *rand.Rand }

func (m maker) pick(list ...string) string { return list[m.source.Intn(len(list))] }

func (m maker) number() string { return strconv.Itoa(m.source.Intn(4)) }

func (m maker) test() string {
	switch m.source.Intn(5) {
	case 0:
		return "always"
	case 1:
		return "has " + m.pick("c", "d", "e")
	case 2:
		return m.pick("f", "g", "f", "g", "f", "g", "x")
	case 3:
		return m.pick("x", "y") + m.pick("<", "<=", "=", "!=", ">=", ">") + m.number()
	}
	return m.pick("x", "y") + " " + m.pick("<", "<=", "=", "!=", ">=", ">") + " " + m.pick("x", "y")
}

func (m maker) guard(most int) string {
	if most <= 0 || m.source.Intn(4) == 0 {
		return m.test()
	}
	switch m.source.Intn(5) {
	case 0:
		return "(" + m.guard(most-1) + ")"
	case 1:
		return "not (" + m.guard(most-1) + ")"
	case 2:
		return "not " + m.test()
	}
	return m.guard(most-1) + m.pick(" or ", " and ") + "(" + m.guard(most-2) + ")"
}

func (m maker) sum() string {
	out := ""
	for {
		out += m.pick(m.number(), "x", "y", "c", "d", m.number()+"*x", m.number()+" * y", "9*x")
		if m.source.Intn(3) > 0 {
			return out
		}
		out += m.pick("+", " - ")
	}
}

func (m maker) line() string {
	switch m.source.Intn(9) {
	case 0, 1, 2, 3:
		return "rule " + m.pick("r", "s", "t", "u", "v", "w") + ":" + m.pick("c", "d", "e") + "=" + m.sum() + " when " + m.guard(2) + ";"
	case 4:
		return "num " + m.pick("x", "y", "z") + m.number() + ".." + m.pick("3", "9", m.number()) + ";"
	case 5:
		return "flag " + m.pick("f", "g", "h") + ";"
	}
	return "over " + m.pick("r", "s", "t", "u") + " " + m.pick("r", "s", "t", "u") + ";"
}

// good is a rulebook whose names mostly fit: a few rules behind all their inputs.
func (m maker) good() string {
	out := "num x 0..9;num y 1.." + m.pick("0", "1", "2", "3") + ";flag f;flag g;"
	labels := []string{"r", "s", "t", "u", "v", "w"}
	for _, label := range labels {
		name, sum := m.pick("c", "c", "c", "d", "e"), m.pick("1", "x", "2*y-x", m.sum())
		out += "rule " + label + ":" + name + "=" + sum + " when " + m.guard(m.source.Intn(3)) + ";\n"
	}
	for m.source.Intn(3) > 0 {
		out += "over " + m.pick(labels...) + " " + m.pick(labels...) + ";"
	}
	return out
}

func (m maker) text() string {
	if m.source.Intn(2) == 0 {
		return m.good()
	}
	out := ""
	for m.source.Intn(6) > 0 {
		out += m.line()
	}
	return out
}

// spoil takes out, doubles or exchanges a token.
func (m maker) spoil(src string) string {
	tokens := refTokens(src)
	if len(tokens) == 0 {
		return src
	}
	t, other := tokens[m.source.Intn(len(tokens))], tokens[m.source.Intn(len(tokens))]
	end := t.place + len(t.text)
	return src[:t.place] + m.pick("", t.text+" "+t.text, other.text, "(", ")", "10", "not") + src[end:]
}

func TestMadeTexts(t *testing.T) {
	m := maker{rand.New(rand.NewSource(2))}
	found := map[api.Errno]int{}
	for i := 0; i < 4000; i++ {
		src := m.text()
		if i%4 == 0 {
			src = m.spoil(src)
		}
		found[compare(t, src)]++
	}
	for _, err := range []api.Errno{api.OK, api.ErrForm, api.ErrMany, api.ErrName, api.ErrRange, api.ErrPair, api.ErrRing} {
		if found[err] < 20 {
			t.Errorf("only %d of the texts lead to the error %d: %v", found[err], err, found)
		}
	}
	t.Logf("errors: %v", found)
}

// TestSameAgain: an answer does not hang on calls ahead of it (P2).
func TestSameAgain(t *testing.T) {
	m := maker{rand.New(rand.NewSource(3))}
	texts := []string{"", T, T + T, "flag", strings.Repeat(" ", 4001)}
	for i := 0; i < 200; i++ {
		texts = append(texts, m.text())
	}
	type answer struct {
		err, tidyErr, ringErr, loadErr, strictErr api.Errno
		place                                     int
		text, ring, levels, outcome, clash        string
	}
	ask := func(src string) answer {
		text, tidyErr := statute.Tidy(src)
		err, place := statute.Check(src)
		ring, ringErr := statute.Ring(src)
		clash := fmt.Sprint(statute.Clash(src))
		_, strictErr := statute.Load(src, true)
		base, loadErr := statute.Load(src, false)
		levels, outcome := fmt.Sprint(base.Levels()), ""
		for _, facts := range []string{"", "x=2;y=1;f=yes;g=no;", "age=20;pay=500;vet=yes;", "f"} {
			verdicts, weighErr := base.Weigh(facts)
			answers, evalErr := base.Eval(facts)
			outcome += fmt.Sprint(verdicts, weighErr, answers, evalErr)
		}
		return answer{err, tidyErr, ringErr, loadErr, strictErr, place, text, fmt.Sprint(ring), levels, outcome, clash}
	}
	first := []answer{}
	for _, src := range texts {
		first = append(first, ask(src))
	}
	for i := len(texts) - 1; i >= 0; i-- {
		if again := ask(texts[i]); again != first[i] {
			t.Errorf("P2: %q answers %v, and %v the second time", texts[i], first[i], again)
		}
	}
}
