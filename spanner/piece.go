package spanner

import (
	"iter"

	"hemiola/api"
)

// octave is by how many staff positions notes under an octave line are displayed higher or lower.
const octave = 7

// Shift returns by how many staff positions notes at a place are displayed higher because of an octave line.
func Shift(l []Span, p Place) int {
	for _, s := range l {
		switch {
		case !covers(s, p):
		case s.Kind == api.OctaveUp:
			return -octave
		case s.Kind == api.OctaveDown:
			return octave
		}
	}
	return 0
}

// covers reports whether a span covers a place.
func covers(s Span, p Place) bool {
	return Compare(p, s.From) >= 0 && Compare(p, s.To) <= 0 &&
		p.Staff == s.From.Staff && (!ofVoice(s.Kind) || p.Voice == s.From.Voice)
}

// Covering returns the indices of the spans of a kind that cover a place, and Crossing those of the spans that cross a measure.
func Covering(l []Span, kind int, p Place) []int {
	return indices(l, func(s Span) bool { return s.Kind == kind && covers(s, p) })
}

func Crossing(l []Span, measure int) []int {
	return indices(l, func(s Span) bool { return s.From.Measure <= measure && measure <= s.To.Measure })
}

// indices returns the indices of the spans for which a function returns true.
func indices(l []Span, wanted func(Span) bool) []int {
	var out []int
	for i, s := range l {
		if wanted(s) {
			out = append(out, i)
		}
	}
	return out
}

// Divide returns the pieces of a span if systems begin at given measures.
func Divide(s Span, systems []int) ([]Piece, api.Errno) {
	if e := checkDivision(s, systems); e != api.OK {
		return nil, e
	}
	var out []Piece
	for p := range pieces(s, systems) {
		out = append(out, p)
	}
	return out, api.OK
}

// checkDivision returns the first error of the arguments of Divide.
func checkDivision(s Span, systems []int) api.Errno {
	if e := Proper(s); e != api.OK {
		return e
	}
	if len(systems) == 0 {
		return api.ErrShort
	}
	for k := 1; k < len(systems); k++ {
		if systems[k] <= systems[k-1] {
			return api.ErrOrder
		}
	}
	if systems[0] > s.From.Measure {
		return api.ErrRange
	}
	return api.OK
}

// pieces yields the pieces of a span in order.
func pieces(s Span, systems []int) iter.Seq[Piece] {
	return func(yield func(Piece) bool) {
		for k, begin := range systems {
			first, last := max(begin, s.From.Measure), s.To.Measure
			if k+1 < len(systems) {
				last = min(last, systems[k+1]-1)
			}
			if first > last {
				continue
			}
			p := Piece{System: k, First: first, Last: last, Begins: first == s.From.Measure, Ends: last == s.To.Measure}
			if !yield(p) {
				return
			}
		}
	}
}
