// Package shape knows shapes: how long a tensor is each way, and which of its numbers stands where. See doc/01-shape.md.
package shape

import (
	"parquetry/api"
)

// Right tells whether s may be a tensor's shape.
func Right(s []int) bool {
	_, ok := product(s)
	return ok
}

// Size tells how many numbers a tensor of shape s has: 1 of no axes, 0 of an s that is not Right.
func Size(s []int) int {
	n, _ := product(s)
	return n
}

// product multiplies the lengths of a Right s; 0 and false of any other.
func product(s []int) (int, bool) {
	if len(s) > api.MaxRank {
		return 0, false
	}
	n := 1
	for _, length := range s {
		if length < 0 || length > api.MaxDim {
			return 0, false
		}
		n *= length
	}
	// Only the whole product is held against MaxElems: a length of 0 further behind makes a great one small again.
	// MaxRank lengths of MaxDim at most stay far below where an int goes round.
	if n > api.MaxElems {
		return 0, false
	}
	return n, true
}

// Strides tells of each axis of a Right s how far one step along it goes; none of an s that is not Right.
func Strides(s []int) []int {
	if !Right(s) {
		return nil
	}
	strides := make([]int, len(s))
	step := 1
	for axis := len(s) - 1; axis >= 0; axis-- {
		strides[axis] = step
		step *= s[axis]
	}
	return strides
}

// Index tells which of a tensor's numbers stands at a place; -1 where there is no such place.
func Index(s, at []int) int {
	if !Right(s) || len(at) != len(s) {
		return -1
	}
	// Multiplying on from axis to axis sums the places times their strides, with no list of strides to be made.
	index := 0
	for axis, place := range at {
		if place < 0 || place >= s[axis] {
			return -1
		}
		index = index*s[axis] + place
	}
	return index
}

// Place tells at which place the i-th of a tensor's numbers stands; none where there is no such number.
func Place(s []int, i int) []int {
	// This also keeps lengths of 0 from the divisions below: there the Size is 0, and no i passes.
	if i < 0 || i >= Size(s) {
		return nil
	}
	at := make([]int, len(s))
	for axis := len(s) - 1; axis >= 0; axis-- {
		at[axis] = i % s[axis]
		i /= s[axis]
	}
	return at
}

// Same tells whether two lists are alike number for number, be they Right or not.
func Same(a, b []int) bool {
	if len(a) != len(b) {
		return false
	}
	for i, n := range a {
		if n != b[i] {
			return false
		}
	}
	return true
}
