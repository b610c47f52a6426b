// Package history takes edits back, alone or in groups, and does them again.
package history

import "slices"

// Back takes back what was done, and tells what takes back this in turn: that does it again. It is called
// once at most, when all that was done behind it is taken back.
type Back func() Back

// Put writes into a place, and keeps what stood there.
func Put[T any](place *T, value T) Back {
	was := *place
	*place = value
	return func() Back { return Put(place, was) }
}

// All makes one of several, told in the order in which they were done: the last is taken back first, for
// two may be of the same place.
func All(backs ...Back) Back {
	return func() Back {
		var again []Back
		for _, back := range slices.Backward(backs) {
			again = append(again, back())
		}
		return All(again...)
	}
}
