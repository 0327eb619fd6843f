// Package statute: rules with exceptions, and whether two of them can ever disagree: see DOC.md.
package statute

import (
	"statute/api"
	"statute/book"
	"statute/check"
	"statute/links"
	"statute/tidy"
)

// Base is a rulebook that was loaded.
type Base struct {
	loaded bool        // by Load, so it takes facts
	levels []api.Level // of the conclusions, in their order
}

// Check tells whether a text is a rulebook, and if not, where (P4).
func Check(src string) (api.Errno, int) {
	reading := book.Read(src)
	if reading.Err != api.OK {
		return reading.Err, reading.Place
	}
	fault := check.Lines(reading.Lines)
	return fault.Err, fault.Place
}

// Tidy writes a rulebook anew (P3).
func Tidy(src string) (string, api.Errno) {
	reading := book.Read(src)
	if reading.Err != api.OK {
		return "", reading.Err
	}
	return tidy.Text(reading.Lines), api.OK
}

// Ring tells a ring (P5).
func Ring(src string) ([]string, api.Errno) {
	reading := book.Read(src)
	if reading.Err != api.OK {
		return nil, reading.Err
	}
	fault := check.Lines(reading.Lines)
	if fault.Err == api.OK {
		return nil, api.ErrCalm
	}
	if fault.Err != api.ErrRing {
		return nil, fault.Err
	}
	return links.Ring(reading.Lines), api.OK
}

// Load loads a rulebook (P6). Whether rules can clash is not asked yet, so
// strict makes no difference.
func Load(src string, strict bool) (*Base, api.Errno) {
	reading := book.Read(src)
	if reading.Err != api.OK {
		return nil, reading.Err
	}
	fault := check.Lines(reading.Lines)
	if fault.Err != api.OK {
		return nil, fault.Err
	}
	levels := links.Levels(reading.Lines)
	for i := range levels {
		// A name of its own, for the Base shall not keep the text.
		levels[i].Name = string([]byte(levels[i].Name))
	}
	return &Base{loaded: true, levels: levels}, api.OK
}

// Levels tells the levels of the conclusions (P7).
func (b *Base) Levels() []api.Level {
	levels := []api.Level{}
	if b == nil {
		return levels
	}
	for _, level := range b.levels {
		levels = append(levels, level)
	}
	return levels
}

// Weigh tells how it stands with each rule in a case (P8). Of a loaded Base it
// answers nothing yet.
func (b *Base) Weigh(facts string) ([]api.Verdict, api.Errno) {
	if b == nil || !b.loaded {
		return nil, api.ErrBase
	}
	return nil, api.OK
}

// Eval tells what a case leads to (P8). Of a loaded Base it answers nothing yet.
func (b *Base) Eval(facts string) ([]api.Answer, api.Errno) {
	if b == nil || !b.loaded {
		return nil, api.ErrBase
	}
	return nil, api.OK
}

// Clash tells two rules that can clash, and how (P9). It answers nothing yet.
func Clash(src string) ([]string, []api.Setting, api.Errno) { return nil, nil, api.OK }
