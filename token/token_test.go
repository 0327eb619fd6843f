package token

import (
	"reflect"
	"testing"
)

func TestRead(t *testing.T) {
	for _, c := range []struct {
		src  string
		want []Token
	}{
		{"", []Token{{End, "", 0, 0}}},
		{" \n\n ", []Token{{End, "", 0, 4}}},
		{"a1", []Token{{Name, "a", 0, 0}, {Number, "1", 1, 1}, {End, "", 0, 2}}},
		{"1a", []Token{{Number, "1", 1, 0}, {Name, "a", 0, 1}, {End, "", 0, 2}}},
		{"num\nnumb", []Token{{Fixed, "num", 0, 0}, {Name, "numb", 0, 4}, {End, "", 0, 8}}},
		{"<=<", []Token{{Fixed, "<=", 0, 0}, {Fixed, "<", 0, 2}, {End, "", 0, 3}}},
		{"<<=", []Token{{Fixed, "<", 0, 0}, {Fixed, "<=", 0, 1}, {End, "", 0, 3}}},
		{"=<", []Token{{Fixed, "=", 0, 0}, {Fixed, "<", 0, 1}, {End, "", 0, 2}}},
		{"!==", []Token{{Fixed, "!=", 0, 0}, {Fixed, "=", 0, 2}, {End, "", 0, 3}}},
		{"...", []Token{{Fixed, "..", 0, 0}, {Bad, ".", 0, 2}, {End, "", 0, 3}}},
		{". .", []Token{{Bad, ".", 0, 0}, {Bad, ".", 0, 2}, {End, "", 0, 3}}},
		{"! =", []Token{{Bad, "!", 0, 0}, {Fixed, "=", 0, 2}, {End, "", 0, 3}}},
		{"0 9999", []Token{{Number, "0", 0, 0}, {Number, "9999", 9999, 2}, {End, "", 0, 6}}},
		{"00 01 10000", []Token{{Bad, "00", 0, 0}, {Bad, "01", 0, 3}, {Bad, "10000", 0, 6}, {End, "", 0, 11}}},
		{"abcdefgh abcdefghi", []Token{{Name, "abcdefgh", 0, 0}, {Bad, "abcdefghi", 0, 9}, {End, "", 0, 18}}},
	} {
		if got := Read(c.src); !reflect.DeepEqual(got, c.want) {
			t.Errorf("Read(%q) = %v, want %v", c.src, got, c.want)
		}
	}
}

func TestWordsAndMarks(t *testing.T) {
	for _, text := range []string{"num", "flag", "rule", "over", "when", "or", "and", "not", "has", "always", ":", "=", "..", ";", "(", ")", "<", "<=", "!=", ">=", ">", "+", "-", "*"} {
		if got := Read(text); len(got) != 2 || got[0].Kind != Fixed || got[0].Text != text {
			t.Errorf("Read(%q) = %v, want one token that stands for itself", text, got)
		}
	}
	for _, text := range []string{"yes", "no", "nots", "alwaysx", "a", "z", "if"} {
		if got := Read(text); len(got) != 2 || got[0].Kind != Name || got[0].Text != text {
			t.Errorf("Read(%q) = %v, want a name", text, got)
		}
	}
}

func TestEveryByte(t *testing.T) {
	for b := 0; b < 256; b++ {
		text := string([]byte{byte(b)})
		want := Bad
		switch {
		case b == ' ' || b == '\n':
			want = End
		case 'a' <= b && b <= 'z':
			want = Name
		case '0' <= b && b <= '9':
			want = Number
		case b == ':' || b == '=' || b == ';' || b == '(' || b == ')' || b == '<' || b == '>' || b == '+' || b == '-' || b == '*':
			want = Fixed
		}
		if got := Read(text)[0].Kind; got != want {
			t.Errorf("the byte %d is of the kind %d, want %d", b, got, want)
		}
	}
}
