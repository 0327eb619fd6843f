// Package token reads a text into tokens: words, numbers and marks.
package token

import "statute/api"

// The kinds of tokens.
const (
	End    = 0 // behind the last token of a text
	Bad    = 1 // can stand nowhere
	Name   = 2
	Number = 3
	Fixed  = 4 // a kept word or a mark: it stands for itself
)

// maxDigits is how many digits api.MaxNumber has.
const maxDigits = 4

// Token is a token and the place of its first byte in the text.
type Token struct {
	Kind  int
	Text  string
	Value int // of a Number
	Place int
}

// Read tells the tokens of a text, and behind them one of the kind End, whose
// place is the text's length.
func Read(src string) []Token {
	tokens := []Token{}
	at := 0
	for at < len(src) {
		if isBlank(src[at]) {
			at++
			continue
		}
		next := tokenAt(src, at)
		tokens = append(tokens, next)
		at += len(next.Text)
	}
	return append(tokens, Token{Kind: End, Place: len(src)})
}

// tokenAt tells the token that begins at a place inside the text; it has one
// byte or more.
func tokenAt(src string, at int) Token {
	if isLetter(src[at]) {
		return word(src, at)
	}
	if isDigit(src[at]) {
		return number(src, at)
	}
	return mark(src, at)
}

func word(src string, at int) Token {
	end := at + 1
	for end < len(src) && isLetter(src[end]) {
		end++
	}
	text := src[at:end]
	kind := Name
	if len(text) > api.MaxWord {
		kind = Bad
	} else if isKept(text) {
		kind = Fixed
	}
	return Token{Kind: kind, Text: text, Place: at}
}

func number(src string, at int) Token {
	end := at + 1
	for end < len(src) && isDigit(src[end]) {
		end++
	}
	text := src[at:end]
	if len(text) > maxDigits || (len(text) > 1 && src[at] == '0') {
		return Token{Kind: Bad, Text: text, Place: at}
	}
	return Token{Kind: Number, Text: text, Value: value(text), Place: at}
}

func value(digits string) int {
	sum := 0
	for i := 0; i < len(digits); i++ {
		sum = 10*sum + int(digits[i]-'0')
	}
	return sum
}

func mark(src string, at int) Token {
	// The longer mark comes first, for a token is as long as it can be.
	if at+2 <= len(src) && isMark(src[at:at+2]) {
		return Token{Kind: Fixed, Text: src[at : at+2], Place: at}
	}
	text := src[at : at+1]
	if isMark(text) {
		return Token{Kind: Fixed, Text: text, Place: at}
	}
	return Token{Kind: Bad, Text: text, Place: at}
}

func isBlank(b byte) bool { return b == ' ' || b == '\n' }

func isLetter(b byte) bool { return 'a' <= b && b <= 'z' }

func isDigit(b byte) bool { return '0' <= b && b <= '9' }

func isKept(text string) bool {
	switch text {
	case "num", "flag", "rule", "over", "when", "or", "and", "not", "has", "always":
		return true
	}
	return false
}

func isMark(text string) bool {
	switch text {
	case ":", "=", "..", ";", "(", ")", "<", "<=", "!=", ">=", ">", "+", "-", "*":
		return true
	}
	return false
}
