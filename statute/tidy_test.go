package statute_test

import (
	"strings"
	"testing"

	"statute/api"
	"statute/statute"
)

// T is the document's example.
const T = "num age 0 .. 120; num pay 0..9999; flag vet;\n" +
	"rule basic: tax = 2*pay when always;\n" +
	"rule young: tax = pay when (age < 25);\n" +
	"rule free: tax = 0 when vet and ((pay <= 1000));\n" +
	"over young basic; over free basic;"

func TestTidyLines(t *testing.T) {
	for _, c := range []struct{ src, want string }{
		{"", ""}, {"\n \n", ""},
		{T, "num age 0 .. 120;\nnum pay 0 .. 9999;\nflag vet;\nrule basic : tax = 2 * pay when always;\nrule young : tax = pay when age < 25;\nrule free : tax = 0 when vet and pay <= 1000;\nover young basic;\nover free basic;\n"},
		{"num\nabcdefgh\n9999\n..\n0\n;\n", "num abcdefgh 9999 .. 0;\n"},
		{"rule r:c=0*x-1*x+x-9999+0 when x!=10or y<z;", "rule r : c = 0 * x - 1 * x + x - 9999 + 0 when x != 10 or y < z;\n"},
		{"rule r:c=x when x<1and x<=2and x=3and x!=4and x>=5and x>y;", "rule r : c = x when x < 1 and x <= 2 and x = 3 and x != 4 and x >= 5 and x > y;\n"},
		{"over a a;flag a;flag a;over a a;", "over a a;\nflag a;\nflag a;\nover a a;\n"},
	} {
		tidy(t, c.src, c.want)
	}
}

func tidy(t *testing.T, src, want string) {
	t.Helper()
	if s, e := statute.Tidy(src); s != want || e != api.OK {
		t.Errorf("P3: Tidy(%.90q) = %.90q, %d, want %.90q", src, s, e, want)
	}
	if s, e := statute.Tidy(want); s != want || e != api.OK {
		t.Errorf("P3: Tidy(%.90q), tidy already, = %.90q, %d", want, s, e)
	}
}

func TestTidyGuards(t *testing.T) {
	for _, c := range []struct{ guard, want string }{
		{"(a and (b and c)) or not (not d)", "a and b and c or not not d"},
		{"a and (b or (c))", "a and ( b or c )"},
		{"not (a and b)", "not ( a and b )"},
		{"not (((a or b)))", "not ( a or b )"},
		{"not (not (a))", "not not a"},
		{"not (always) and (has c)", "not always and has c"},
		{"(((a or b))) and c", "( a or b ) and c"},
		{"(((a or b)) or c)", "a or b or c"},
		{"a or (b or (c or d))", "a or b or c or d"},
		{"a and (b and (c or d))", "a and b and ( c or d )"},
		{"((a or b) and c) and d", "( a or b ) and c and d"},
		{"((a or b) and c) or d", "( a or b ) and c or d"},
		{"a and ((b and c) or d)", "a and ( b and c or d )"},
		{"not ((a or b) and c)", "not ( ( a or b ) and c )"},
		{"(not (a or b)) and (not a)", "not ( a or b ) and not a"},
		{"((x < 3)) or (x=y)", "x < 3 or x = y"},
		{"not (x<3)", "not x < 3"},
	} {
		tidy(t, "rule r : c = 1 when "+c.guard+";", "rule r : c = 1 when "+c.want+";\n")
	}
}

// Tidy asks for a rulebook, not for one that Check takes.
func TestTidyOverLimits(t *testing.T) {
	head := "rule r : c = 1 when "
	many := strings.Repeat("a or ", 700) + "a"
	tidy(t, head+many+";", head+many+";\n")
	tidy(t, head+strings.Repeat("(", 1980)+"a"+strings.Repeat(")", 1980)+";", head+"a;\n")
	tidy(t, head+strings.Repeat("not(", 600)+"a"+strings.Repeat(")", 600)+";", head+strings.Repeat("not ", 600)+"a;\n")
	tidy(t, head+strings.Repeat("(a or ", 500)+"a"+strings.Repeat(")", 500)+";", head+strings.Repeat("a or ", 500)+"a;\n")
	sides := strings.Repeat("a and ( b or ", 200) + "a" + strings.Repeat(" )", 200)
	tidy(t, head+sides+";", head+sides+";\n")
	tidy(t, strings.Repeat("flag a;", 500), strings.Repeat("flag a;\n", 500))
	tidy(t, "rule r : c = 10 * x + 1 + 1 + 1 + 1 when a;", "rule r : c = 10 * x + 1 + 1 + 1 + 1 when a;\n")
}

// What comes out may have more than MaxText bytes.
func TestTidyGrows(t *testing.T) {
	want := strings.Repeat("flag a;\n", 571)
	if s, e := statute.Tidy(strings.Repeat("flag a;", 571)); s != want || e != api.OK {
		t.Errorf("P3: Tidy of 571 lines has %d bytes, %d, want %d bytes", len(s), e, len(want))
	}
}

func TestTidyErrors(t *testing.T) {
	for _, c := range []struct {
		src string
		err api.Errno
	}{
		{strings.Repeat("\n", 4001), api.ErrLong}, {strings.Repeat("?", 4001), api.ErrLong}, {strings.Repeat("?", 4000), api.ErrForm},
		{"flag a", api.ErrForm}, {"flag abcdefghi;", api.ErrForm}, {"num a 0 .. 10000;", api.ErrForm}, {"num a 00 .. 1;", api.ErrForm}, {"flag not;", api.ErrForm},
		{T + "x", api.ErrForm}, {T + "\x00", api.ErrForm}, {T + "rule", api.ErrForm},
	} {
		if s, e := statute.Tidy(c.src); s != "" || e != c.err {
			t.Errorf("P3: Tidy(%.90q) = %.90q, %d, want %d", c.src, s, e, c.err)
		}
	}
	if s, e := statute.Tidy(strings.Repeat("\n", 4000)); s != "" || e != api.OK {
		t.Errorf("P3: Tidy of 4000 ends of lines = %q, %d", s, e)
	}
}
