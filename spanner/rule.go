package spanner

import (
	"cmp"
	"slices"

	"hemiola/api"
)

// group is what spans of the same group have in common: the first one of their kinds, the staff, and the voice if they belong to one.
type group struct{ kind, staff, voice int }

// groupOf returns the group of a span.
func groupOf(s Span) group {
	g := group{kind: s.Kind, staff: s.From.Staff}
	switch s.Kind {
	case api.Diminuendo:
		g.kind = api.Crescendo
	case api.OctaveDown:
		g.kind = api.OctaveUp
	}
	if ofVoice(s.Kind) {
		g.voice = s.From.Voice
	}
	return g
}

// rules returns, for each kind, the function that reports whether two spans of its group exclude one another.
func rules() [api.TrillLine + 1]func(a, b Span) bool {
	return [...]func(a, b Span) bool{
		api.Slur:       entangled,
		api.Crescendo:  overlap,
		api.Diminuendo: overlap,
		api.OctaveUp:   touch,
		api.OctaveDown: touch,
		api.Pedal:      overlap,
		api.TrillLine:  touch,
	}
}

// overlap reports whether two spans have more than an end in common, and touch whether they have a place in common.
func overlap(a, b Span) bool { return Compare(a.To, b.From) > 0 && Compare(b.To, a.From) > 0 }

func touch(a, b Span) bool { return Compare(a.To, b.From) >= 0 && Compare(b.To, a.From) >= 0 }

// entangled reports whether two spans overlap, and none of them is nested within the other one.
func entangled(a, b Span) bool { return overlap(a, b) && within(a, b) == within(b, a) }

// within reports whether a lies within b; each of two spans with the same ends does within the other one.
func within(a, b Span) bool { return Compare(a.From, b.From) >= 0 && Compare(a.To, b.To) <= 0 }

// Conflict reports whether two spans exclude one another, proper or not.
func Conflict(a, b Span) bool {
	return isKind(a.Kind) && groupOf(a) == groupOf(b) && rules()[a.Kind](a, b)
}

// Check returns the index of the first span that violates a rule, and the error, or -1 and OK.
func Check(l []Span) (index int, e api.Errno) {
	if len(l) > api.MaxSpanners {
		return api.MaxSpanners, api.ErrLimit
	}
	earlier := map[group][]Span{}
	for i, s := range l {
		if e := Proper(s); e != api.OK {
			return i, e
		}
		g, exclude := groupOf(s), rules()[s.Kind]
		if slices.ContainsFunc(earlier[g], func(other Span) bool { return exclude(other, s) }) {
			return i, api.ErrOverlap
		}
		earlier[g] = append(earlier[g], s)
	}
	return -1, api.OK
}

// Levels returns, for each span, how many slurs are nested within it one in another.
func Levels(l []Span) []int {
	levels := make([]int, len(l))
	order := innermostFirst(l)
	for n, outer := range order {
		for _, inner := range order[:n] {
			if levels[inner] >= levels[outer] && nested(l[inner], l[outer]) {
				levels[outer] = levels[inner] + 1
			}
		}
	}
	return levels
}

// innermostFirst returns the indices of the slurs, each after those that are nested within it.
func innermostFirst(l []Span) []int {
	var order []int
	for i, s := range l {
		if s.Kind == api.Slur {
			order = append(order, i)
		}
	}
	slices.SortFunc(order, func(i, k int) int {
		return cmp.Or(Compare(l[k].From, l[i].From), Compare(l[i].To, l[k].To))
	})
	return order
}

// nested reports whether a slur lies within another one of its group, but not the other one within it.
func nested(inner, outer Span) bool {
	return groupOf(inner) == groupOf(outer) && within(inner, outer) && !within(outer, inner)
}
