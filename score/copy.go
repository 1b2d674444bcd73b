package score

import (
	"slices"

	"hemiola/api"
	"hemiola/measure"
)

// Prune returns the score without the spanners whose ends are not events of it.
func Prune(s api.Score) api.Score { return changed(s, func(*api.Score) {}) }

// prune removes the spanners whose ends are not events, from a score that is a copy.
func prune(s *api.Score) {
	events := map[api.ID]bool{}
	for p, id := range objects(*s) {
		if p.Kind == Event {
			events[*id] = true
		}
	}
	s.Spanners = slices.DeleteFunc(s.Spanners, func(x api.Spanner) bool { return !events[x.From] || !events[x.To] })
}

// Last returns the greatest number that a site has given, and Give the score after it has given a number.
func Last(s api.Score, site int) int {
	if i := slices.IndexFunc(s.Last, isOf(site)); i >= 0 {
		return s.Last[i].Number
	}
	return 0
}

// isOf returns a function that reports whether an id is of a site.
func isOf(site int) func(api.ID) bool {
	return func(id api.ID) bool { return id.Site == site }
}

func Give(s api.Score, site, number int) (api.Score, api.Errno) {
	switch {
	case site < 0 || site > api.MaxSite || number < 1 || number > api.MaxNumber:
		return api.Score{}, api.ErrRange
	case number <= Last(s, site):
		return api.Score{}, api.ErrSequence
	}
	out, id := Clone(s), api.ID{Site: site, Number: number}
	if i := slices.IndexFunc(s.Last, isOf(site)); i >= 0 {
		out.Last[i] = id
		return out, api.OK
	}
	at := slices.IndexFunc(s.Last, func(other api.ID) bool { return other.Site > site })
	if at < 0 {
		at = len(s.Last)
	}
	out.Last = slices.Insert(out.Last, at, id)
	return out, api.OK
}

// Renumber returns the score with new ids for all objects, in the order of the score.
func Renumber(s api.Score) api.Score {
	out, last, events := Clone(s), api.ID{}, map[api.ID]api.ID{}
	for p, id := range objects(out) {
		last.Number++
		if _, known := events[*id]; p.Kind == Event && !known {
			events[*id] = last
		}
		*id = last
	}
	delete(events, api.ID{}) // the zero id stands for no event
	for i, x := range out.Spanners {
		out.Spanners[i].From, out.Spanners[i].To = events[x.From], events[x.To]
	}
	out.Last = nil
	if last.Number > 0 {
		out.Last = []api.ID{last}
	}
	return out
}

// Clone returns an independent copy, Equal reports whether two scores are equal, and Same whether they are equal up to ids.
func Clone(s api.Score) api.Score {
	s.Parts = cloned(s.Parts, clonePart)
	s.Measures = cloned(s.Measures, measure.Clone)
	s.Spanners = slices.Clone(s.Spanners)
	s.Last = slices.Clone(s.Last)
	return s
}

func clonePart(p api.Part) api.Part {
	p.Staves = slices.Clone(p.Staves)
	return p
}

// cloned returns the copies of the elements of a list.
func cloned[T any](l []T, clone func(T) T) []T {
	out := make([]T, len(l))
	for i, x := range l {
		out[i] = clone(x)
	}
	return out
}

func Equal(a, b api.Score) bool {
	return a.Title == b.Title && a.Written == b.Written &&
		slices.EqualFunc(a.Parts, b.Parts, equalPart) && slices.EqualFunc(a.Measures, b.Measures, measure.Equal) &&
		slices.Equal(a.Spanners, b.Spanners) && slices.Equal(a.Last, b.Last)
}

func equalPart(a, b api.Part) bool {
	return a.ID == b.ID && a.Name == b.Name && a.Transpose == b.Transpose && slices.Equal(a.Staves, b.Staves)
}

func Same(a, b api.Score) bool { return Equal(Renumber(a), Renumber(b)) }
