// Tests of P15.1 against devices that are counted one by one: which places they stand at, and which of them have the same part.
package spec_test

import (
	"math"
	"slices"
	"testing"

	"parquetry/api"
	"parquetry/spec"
)

// eachList hands over each list of n numbers of some, in one list that it fills anew each time.
func eachList(n int, some []int, look func(list []int)) {
	list := make([]int, n)
	var fill func(i int)
	fill = func(i int) {
		if i == n {
			look(list)
			return
		}
		for _, list[i] = range some {
			fill(i + 1)
		}
	}
	fill(0)
}

// eachMesh hands over each mesh that there is.
func eachMesh(look func(sizes []int)) {
	for n := range api.MaxAxes + 1 {
		eachList(n, l(1, 2, 3, 4, 5, 6, 7, 8), func(sizes []int) {
			if len(placesOf(sizes)) <= 8 {
				look(slices.Clone(sizes))
			}
		})
	}
}

// eachSpec hands over each list of numbers about the axes of each mesh, of each rank and of one above.
func eachSpec(look func(sizes []int, places [][]int, s []int)) {
	eachMesh(func(sizes []int) {
		places := placesOf(sizes)
		for rank := range api.MaxRank + 2 {
			eachList(rank, l(-2, -1, 0, 1, 2, 3), func(s []int) { look(sizes, places, s) })
		}
	})
}

// placesOf lists the places of a mesh's devices, the last way first.
func placesOf(sizes []int) [][]int {
	all := [][]int{{}}
	for _, size := range sizes {
		var longer [][]int
		for _, at := range all {
			for n := range size {
				longer = append(longer, append(slices.Clone(at), n))
			}
		}
		all = longer
	}
	return all
}

// mayPart tells whether a mesh of so many axes has each axis that s names, and s names none twice.
func mayPart(axes int, s []int) bool {
	var named []int
	for _, axis := range s {
		if axis != -1 {
			named = append(named, axis)
		}
	}
	slices.Sort(named)
	return len(named) == 0 || named[0] >= 0 && named[len(named)-1] < axes && len(slices.Compact(slices.Clone(named))) == len(named)
}

// partOf tells which part the device at a place has: along each axis of the tensor which piece, the first one of what is not parted.
func partOf(at, s []int) []int {
	part := make([]int, len(s))
	for i, axis := range s {
		if axis >= 0 {
			part[i] = at[axis]
		}
	}
	return part
}

// piecesOf counts of each axis of the tensor how many pieces of it the devices have.
func piecesOf(parts [][]int, rank int) []int {
	pieces := make([]int, rank)
	for i := range pieces {
		var seen []int
		for _, part := range parts {
			if !slices.Contains(seen, part[i]) {
				seen = append(seen, part[i])
			}
		}
		pieces[i] = len(seen)
	}
	return pieces
}

// holders lists all devices that have the same part as d.
func holders(parts [][]int, d int) []int {
	var all []int
	for e, part := range parts {
		if slices.Equal(part, parts[d]) {
			all = append(all, e)
		}
	}
	return all
}

// TestEachRight asks Right of each spec of each mesh, and of numbers of any size.
func TestEachRight(t *testing.T) {
	right, wrong := 0, 0
	ask := func(sizes, s []int) {
		want := mayPart(len(sizes), s)
		for _, rank := range l(-1, len(s)-1, len(s), len(s)+1) {
			if got := spec.Right(sizes, s, rank); got != (want && rank == len(s)) {
				t.Errorf("Right(%v, %v, %d): %v", sizes, s, rank, got)
			}
		}
		if want {
			right++
		} else {
			wrong++
		}
	}
	eachSpec(func(sizes []int, _ [][]int, s []int) { ask(sizes, s) })
	for _, sizes := range [][]int{nil, l(2), l(2, 4), l(2, 2, 2)} {
		for rank := range api.MaxRank + 1 {
			eachList(rank, l(math.MinInt, math.MinInt32, -8, -1, 0, 2, 8, math.MaxInt32+1, math.MaxInt), func(s []int) { ask(sizes, s) })
		}
	}
	if right == 0 || wrong == 0 {
		t.Errorf("%d specs are Right, %d are not", right, wrong)
	}
}

// TestMeshesAboutTheLimits asks of meshes that may be, and of such as may not, with specs that are Right but for them.
func TestMeshesAboutTheLimits(t *testing.T) {
	some := l(math.MinInt, -2, -1, 0, 1, 2, 3, 4, 7, 8, 9, math.MaxInt)
	for n := range api.MaxAxes + 2 {
		eachList(n, some, func(sizes []int) {
			right, devices := n <= 3, 1
			for _, size := range sizes {
				right = right && size >= 1 && size <= 8
				devices *= size
			}
			right = right && devices <= 8
			for _, s := range [][]int{nil, l(-1), l(-1, -1, -1, -1)} {
				if got := spec.Right(sizes, s, len(s)); got != right {
					t.Errorf("Right(%v, %v, %d): %v", sizes, s, len(s), got)
				}
				parts, copies, first := spec.Parts(sizes, s), spec.Copies(sizes, s), spec.First(sizes, s, 0)
				if right && (len(parts) != len(s) || copies != devices || first != 0) {
					t.Errorf("%v, %v: %v, %d, %d of a mesh of %d", sizes, s, parts, copies, first, devices)
				}
				if !right && (len(parts) != 0 || copies != 0 || first != -1) {
					t.Errorf("%v, %v: %v, %d, %d of no mesh", sizes, s, parts, copies, first)
				}
			}
		})
	}
}

// TestEachPartsAndCopies counts the pieces and the devices that have them, of each spec of each mesh.
func TestEachPartsAndCopies(t *testing.T) {
	eachSpec(func(sizes []int, places [][]int, s []int) {
		var wantParts []int
		wantCopies := 0
		if mayPart(len(sizes), s) {
			var parts [][]int
			for _, at := range places {
				parts = append(parts, partOf(at, s))
			}
			wantParts, wantCopies = piecesOf(parts, len(s)), len(holders(parts, 0))
		}
		if got := spec.Parts(sizes, s); !slices.Equal(got, wantParts) {
			t.Errorf("Parts(%v, %v): %v, not %v", sizes, s, got, wantParts)
		}
		if got := spec.Copies(sizes, s); got != wantCopies {
			t.Errorf("Copies(%v, %v): %d, not %d", sizes, s, got, wantCopies)
		}
	})
}

// TestEachFirst asks of each device of each spec of each mesh which is the least one that has the same part, and that as many have it as Copies tells.
func TestEachFirst(t *testing.T) {
	eachSpec(func(sizes []int, places [][]int, s []int) {
		right := mayPart(len(sizes), s)
		var parts [][]int
		for _, at := range places {
			if right {
				parts = append(parts, partOf(at, s))
			}
		}
		for d := -1; d <= len(places); d++ {
			want := -1
			if right && d >= 0 && d < len(places) {
				have := holders(parts, d)
				want = have[0]
				if got := spec.Copies(sizes, s); got != len(have) {
					t.Errorf("Copies(%v, %v): %d, but %v have what device %d has", sizes, s, got, have, d)
				}
			}
			if got := spec.First(sizes, s, d); got != want {
				t.Errorf("First(%v, %v, %d): %d, not %d", sizes, s, d, got, want)
			}
		}
	})
}

// TestWholeOnEachMesh: what is Whole is Right on each mesh, in one part, and all devices have it.
func TestWholeOnEachMesh(t *testing.T) {
	eachMesh(func(sizes []int) {
		devices := len(placesOf(sizes))
		for rank := range api.MaxRank + 1 {
			s := spec.Whole(rank)
			if !spec.Right(sizes, s, rank) || spec.Copies(sizes, s) != devices || !slices.Equal(spec.Parts(sizes, s), slices.Repeat(l(1), rank)) {
				t.Errorf("Whole(%d) on %v: not one part that all have", rank, sizes)
			}
			for d := range devices {
				if got := spec.First(sizes, s, d); got != 0 {
					t.Errorf("First(%v, Whole(%d), %d): %d", sizes, rank, d, got)
				}
			}
		}
	})
}

// TestSameOfEachTwo holds each two short lists against each other.
func TestSameOfEachTwo(t *testing.T) {
	var all [][]int
	for rank := range 4 {
		eachList(rank, l(-2, -1, 0, 1, 2), func(s []int) { all = append(all, slices.Clone(s)) })
	}
	for _, a := range all {
		for _, b := range all {
			if spec.Same(a, b) != slices.Equal(a, b) {
				t.Errorf("Same(%v, %v): %v", a, b, spec.Same(a, b))
			}
		}
	}
}
