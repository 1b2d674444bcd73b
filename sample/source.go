// Package sample makes scores for the tests of the other packages: from a short notation, and valid ones at random.
package sample

// Source yields numbers that look random, but depend only on its seed.
type Source struct{ state uint64 }

// New returns the source with a seed.
func New(seed int) *Source { return &Source{state: uint64(seed)} }

// Below returns a number from 0 to n - 1.
func (r *Source) Below(n int) int {
	r.state += 0x9e3779b97f4a7c15
	x := r.state
	x = (x ^ x>>30) * 0xbf58476d1ce4e5b9
	x = (x ^ x>>27) * 0x94d049bb133111eb
	return int((x ^ x>>31) % uint64(n))
}

// Chance reports something that is true in so many of a hundred cases.
func (r *Source) Chance(percent int) bool { return r.Below(100) < percent }

// Pick returns one of several things.
func Pick[T any](r *Source, l ...T) T { return l[r.Below(len(l))] }
