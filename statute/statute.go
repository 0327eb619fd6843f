// Package statute: rules with exceptions, and whether two of them can ever disagree: see DOC.md.
package statute

import (
	"statute/api"
	"statute/book"
	"statute/cases"
	"statute/check"
	"statute/clash"
	"statute/links"
	"statute/model"
	"statute/outcome"
	"statute/tidy"
)

// Base is a rulebook that was loaded.
type Base struct {
	loaded bool // by Load, so it takes facts
	model  model.Model
}

// Check tells whether a text is a rulebook, and if not, where (P4).
func Check(src string) (api.Errno, int) {
	reading := book.Read(src)
	if reading.Err != api.OK {
		return reading.Err, reading.Place
	}
	fault := check.Lines(reading.Lines)
	return fault.Err, fault.Place
}

// Tidy writes a rulebook anew (P3).
func Tidy(src string) (string, api.Errno) {
	reading := book.Read(src)
	if reading.Err != api.OK {
		return "", reading.Err
	}
	return tidy.Text(reading.Lines), api.OK
}

// Ring tells a ring (P5).
func Ring(src string) ([]string, api.Errno) {
	reading := book.Read(src)
	if reading.Err != api.OK {
		return nil, reading.Err
	}
	fault := check.Lines(reading.Lines)
	if fault.Err == api.OK {
		return nil, api.ErrCalm
	}
	if fault.Err != api.ErrRing {
		return nil, fault.Err
	}
	return links.Ring(reading.Lines), api.OK
}

// Load loads a rulebook (P6).
func Load(src string, strict bool) (*Base, api.Errno) {
	made := read(src)
	if made.err != api.OK {
		return nil, made.err
	}
	if strict {
		found := clash.Find(&made.model)
		if len(found.Labels) > 0 {
			return nil, api.ErrClash
		}
	}
	return &Base{loaded: true, model: made.model}, api.OK
}

// making is what came of a text: the model of a rulebook, or the error of Check.
type making struct {
	model model.Model
	err   api.Errno
}

func read(src string) making {
	reading := book.Read(src)
	if reading.Err != api.OK {
		return making{err: reading.Err}
	}
	fault := check.Lines(reading.Lines)
	if fault.Err != api.OK {
		return making{err: fault.Err}
	}
	return making{model: model.Make(reading.Lines)}
}

// Levels tells the levels of the conclusions (P7).
func (b *Base) Levels() []api.Level {
	levels := []api.Level{}
	if b == nil {
		return levels
	}
	for _, level := range b.model.Conclusions {
		levels = append(levels, level)
	}
	return levels
}

// Weigh tells how it stands with each rule in a case (P8).
func (b *Base) Weigh(facts string) ([]api.Verdict, api.Errno) {
	found := b.hear(facts)
	return found.outcome.Verdicts, found.err
}

// Eval tells what a case leads to (P8).
func (b *Base) Eval(facts string) ([]api.Answer, api.Errno) {
	found := b.hear(facts)
	return found.outcome.Answers, found.err
}

// finding is what facts lead to, or the error.
type finding struct {
	outcome outcome.Outcome
	err     api.Errno
}

func (b *Base) hear(facts string) finding {
	if b == nil || !b.loaded {
		return finding{err: api.ErrBase}
	}
	reading := cases.Read(facts, &b.model)
	if reading.Err != api.OK {
		return finding{err: reading.Err}
	}
	return finding{outcome: outcome.Of(&b.model, reading.Inputs)}
}

// Clash tells two rules that can clash, and how (P9).
func Clash(src string) ([]string, []api.Setting, api.Errno) {
	made := read(src)
	if made.err != api.OK {
		return nil, nil, made.err
	}
	found := clash.Find(&made.model)
	if len(found.Labels) == 0 {
		return nil, nil, api.ErrCalm
	}
	return found.Labels, found.Setting, api.OK
}
