package score

import (
	"slices"

	"hemiola/api"
	"hemiola/measure"
)

// changed returns a copy of a score after a change, pruned.
func changed(s api.Score, change func(out *api.Score)) api.Score {
	out := Clone(s)
	change(&out)
	prune(&out)
	return out
}

// InsertPart inserts a part, with its cells for each measure; DeletePart deletes one.
func InsertPart(s api.Score, at int, p api.Part, cells [][]api.Cell) (api.Score, api.Errno) {
	switch {
	case !within(at, len(s.Parts)+1):
		return api.Score{}, api.ErrRange
	case len(s.Parts) >= api.MaxParts:
		return api.Score{}, api.ErrLimit
	case !full(s.Measures, Staves(s)):
		return api.Score{}, api.ErrFormat
	case len(cells) != len(s.Measures) || slices.ContainsFunc(cells, func(l []api.Cell) bool { return len(l) != len(p.Staves) }):
		return api.Score{}, api.ErrLength
	}
	out, first := Clone(s), stavesOf(s.Parts[:at])
	out.Parts = slices.Insert(out.Parts, at, clonePart(p))
	for i, l := range cells {
		m := &out.Measures[i]
		m.Cells = slices.Insert(m.Cells, first, cloned(l, measure.CloneCell)...)
	}
	return out, api.OK
}

// full reports whether all measures have a cell for each staff.
func full(l []api.Measure, staves int) bool {
	return !slices.ContainsFunc(l, func(m api.Measure) bool { return len(m.Cells) != staves })
}

func DeletePart(s api.Score, at int) (api.Score, api.Errno) {
	switch {
	case !within(at, len(s.Parts)):
		return api.Score{}, api.ErrRange
	case !full(s.Measures, Staves(s)):
		return api.Score{}, api.ErrFormat
	}
	from, to := stavesOf(s.Parts[:at]), stavesOf(s.Parts[:at+1])
	return changed(s, func(out *api.Score) {
		out.Parts = slices.Delete(out.Parts, at, at+1)
		for i, m := range out.Measures {
			out.Measures[i].Cells = slices.Delete(m.Cells, from, to)
		}
	}), api.OK
}

// InsertMeasures inserts measures, DeleteMeasures deletes some, and SetMeasure and SetCell replace one, or a cell of one.
func InsertMeasures(s api.Score, at int, l []api.Measure) (api.Score, api.Errno) {
	switch {
	case !within(at, len(s.Measures)+1):
		return api.Score{}, api.ErrRange
	case len(s.Measures)+len(l) > api.MaxMeasures:
		return api.Score{}, api.ErrLimit
	case !full(l, Staves(s)):
		return api.Score{}, api.ErrLength
	}
	out := Clone(s)
	out.Measures = slices.Insert(out.Measures, at, cloned(l, measure.Clone)...)
	return out, api.OK
}

func DeleteMeasures(s api.Score, at, count int) (api.Score, api.Errno) {
	if !within(at, len(s.Measures)+1) || !within(count, len(s.Measures)-at+1) {
		return api.Score{}, api.ErrRange
	}
	return changed(s, func(out *api.Score) {
		out.Measures = slices.Delete(out.Measures, at, at+count)
	}), api.OK
}

func SetMeasure(s api.Score, index int, m api.Measure) (api.Score, api.Errno) {
	switch {
	case !within(index, len(s.Measures)):
		return api.Score{}, api.ErrRange
	case len(m.Cells) != Staves(s):
		return api.Score{}, api.ErrLength
	}
	return changed(s, func(out *api.Score) { out.Measures[index] = measure.Clone(m) }), api.OK
}

func SetCell(s api.Score, measure, staff int, c api.Cell) (api.Score, api.Errno) {
	if !within(measure, len(s.Measures)) || !within(staff, len(s.Measures[measure].Cells)) {
		return api.Score{}, api.ErrRange
	}
	copied := copyOf(c)
	return changed(s, func(out *api.Score) { out.Measures[measure].Cells[staff] = copied }), api.OK
}

func copyOf(c api.Cell) api.Cell { return measure.CloneCell(c) }
