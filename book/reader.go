package book

import "statute/token"

// reader goes through tokens. Once it has failed it stays at the token that
// can't stand there, and takes no more; so it never leaves the last token, of
// the kind End, which nothing takes.
type reader struct {
	tokens []token.Token
	at     int
	failed bool
}

// next tells whether the next token is of a kind.
func (r *reader) next(kind int) bool { return r.tokens[r.at].Kind == kind }

// skip goes past a kept word or a mark, if it is the next token.
func (r *reader) skip(text string) bool {
	t := r.tokens[r.at]
	if r.failed || t.Kind != token.Fixed || t.Text != text {
		return false
	}
	r.at++
	return true
}

func (r *reader) want(text string) {
	if !r.skip(text) {
		r.failed = true
	}
}

// take goes past a token of a kind, and fails if the next one is of another.
func (r *reader) take(kind int) token.Token {
	t := r.tokens[r.at]
	if r.failed || t.Kind != kind {
		r.failed = true
		return token.Token{}
	}
	r.at++
	return t
}

func (r *reader) name() string { return r.take(token.Name).Text }

func (r *reader) number() int { return r.take(token.Number).Value }

func (r *reader) line() Line {
	if r.skip("num") {
		return r.numLine()
	}
	if r.skip("flag") {
		return r.flagLine()
	}
	if r.skip("rule") {
		return r.ruleLine()
	}
	r.want("over")
	return r.overLine()
}

func (r *reader) numLine() Line {
	line := Line{Kind: Num}
	line.Name = r.name()
	line.Low = r.number()
	r.want("..")
	line.High = r.number()
	r.want(";")
	return line
}

func (r *reader) flagLine() Line {
	line := Line{Kind: Flag}
	line.Name = r.name()
	r.want(";")
	return line
}

func (r *reader) ruleLine() Line {
	line := Line{Kind: Rule}
	line.Name = r.name()
	r.want(":")
	line.Concludes = r.name()
	r.want("=")
	line.Sum = r.sum()
	r.want("when")
	line.Guard = r.guard()
	r.want(";")
	return line
}

func (r *reader) overLine() Line {
	line := Line{Kind: Over}
	line.Name = r.name()
	line.Lower = r.name()
	r.want(";")
	return line
}

func (r *reader) sum() []Part {
	parts := []Part{}
	minus := false
	more := true
	for more {
		part := r.part(minus)
		parts = append(parts, part)
		minus = r.skip("-")
		more = minus || r.skip("+")
	}
	return parts
}

func (r *reader) part(minus bool) Part {
	part := Part{Minus: minus}
	if r.next(token.Number) {
		part.Number = r.number()
		part.Starred = r.skip("*")
		if !part.Starred {
			return part
		}
	}
	part.Name = r.name()
	return part
}
