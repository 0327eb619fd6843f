// Package statute: rules with exceptions, and whether two of them can ever disagree: see DOC.md.
package statute

import (
	"statute/api"
	"statute/book"
	"statute/check"
	"statute/tidy"
)

// Base is a rulebook that was loaded.
type Base struct{}

// Check tells whether a text is a rulebook, and if not, where (P4).
func Check(src string) (api.Errno, int) {
	reading := book.Read(src)
	if reading.Err != api.OK {
		return reading.Err, reading.Place
	}
	return check.Lines(reading.Lines)
}

// Tidy writes a rulebook anew (P3).
func Tidy(src string) (string, api.Errno) {
	reading := book.Read(src)
	if reading.Err != api.OK {
		return "", reading.Err
	}
	return tidy.Text(reading.Lines), api.OK
}

// Ring tells a ring (P5).
func Ring(src string) ([]string, api.Errno) { return nil, api.OK }

// Load loads a rulebook (P6).
func Load(src string, strict bool) (*Base, api.Errno) { return nil, api.OK }

// Levels tells the levels of the conclusions (P7).
func (b *Base) Levels() []api.Level { return nil }

// Weigh tells how it stands with each rule in a case (P8).
func (b *Base) Weigh(facts string) ([]api.Verdict, api.Errno) { return nil, api.OK }

// Eval tells what a case leads to (P8).
func (b *Base) Eval(facts string) ([]api.Answer, api.Errno) { return nil, api.OK }

// Clash tells two rules that can clash, and how (P9).
func Clash(src string) ([]string, []api.Setting, api.Errno) { return nil, nil, api.OK }
