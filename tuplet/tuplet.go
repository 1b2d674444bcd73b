// Package tuplet calculates the lengths of events under nested tuplets. It is layer 3: see shared/doc/03-tuplet.md.
package tuplet

import (
	"cmp"
	"slices"

	"hemiola/api"
)

// The limits of tuplets.
const (
	MaxDepth   = 3  // tuplets that contain an event
	MaxRatio   = 32 // of Actual and Normal
	MaxWritten = 4 * api.Whole
)

// Check returns the first error of the tuplets of a number of events.
func Check(l []api.Tuplet, events int) api.Errno {
	_, e := Tree(l, events)
	return e
}

// Tree returns, for each tuplet, the index of the smallest one that contains it, or -1.
func Tree(l []api.Tuplet, events int) ([]int, api.Errno) {
	if events < 0 || events > api.MaxEvents {
		return nil, api.ErrRange
	}
	if len(l) > api.MaxTuplets {
		return nil, api.ErrLimit
	}
	enter := nesting(l)
	tree := make([]int, len(l))
	for i, t := range l {
		if !inRange(t, events) {
			return nil, api.ErrRange
		}
		if i > 0 && compare(l[i-1], t) > 0 {
			return nil, api.ErrOrder
		}
		var proper bool
		if tree[i], proper = enter(i); !proper {
			return nil, api.ErrTuplet
		}
	}
	return tree, api.OK
}

// nesting returns a function that is called with the indices of the tuplets in order. It returns the smallest earlier tuplet that contains one, or -1, and whether the tuplet is proper: it lies within all those with which it has events in common, and they are not too many.
func nesting(l []api.Tuplet) func(i int) (outer int, proper bool) {
	var open []int // the tuplets that are open at the first event of the tuplet, each within the one before
	return func(i int) (int, bool) {
		for len(open) > 0 && end(l[open[len(open)-1]]) <= l[i].First {
			open = open[:len(open)-1]
		}
		outer, proper := -1, len(open) < MaxDepth
		if len(open) > 0 {
			outer = open[len(open)-1]
			proper = proper && end(l[i]) <= end(l[outer])
		}
		open = append(open, i)
		return outer, proper
	}
}

// inRange reports whether the fields of a tuplet are in their ranges. The number of events is subtracted because First and Count may be too great for a sum.
func inRange(t api.Tuplet, events int) bool {
	return t.Count >= 1 && t.First >= 0 && t.Count <= events && t.First <= events-t.Count &&
		1 <= t.Actual && t.Actual <= MaxRatio && 1 <= t.Normal && t.Normal <= MaxRatio && t.Actual != t.Normal
}

// compare compares the places of tuplets in a list.
func compare(a, b api.Tuplet) int {
	return cmp.Or(cmp.Compare(a.First, b.First), cmp.Compare(b.Count, a.Count))
}

// end returns the index of the event after a tuplet.
func end(t api.Tuplet) int { return t.First + t.Count }

// Canonical returns tuplets in their order: by the first event, and those with more events first.
func Canonical(l []api.Tuplet) []api.Tuplet {
	ordered := slices.Clone(l)
	slices.SortStableFunc(ordered, compare)
	return ordered
}

// Equal reports whether two lists are equal.
func Equal(a, b []api.Tuplet) bool { return slices.Equal(a, b) }
