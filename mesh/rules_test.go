// Tests of the rules R1, R2, R4 and R5 for package mesh. (R3: what stands beside a wrong input is asked wherever one is.)
package mesh_test

import (
	"math"
	"slices"
	"testing"

	"parquetry/mesh"
)

// roomy makes a list with spare room that is full of n.
func roomy(n int, list ...int) []int {
	r := make([]int, len(list), len(list)+6)
	copy(r, list)
	for i := range r[len(list):cap(r)] {
		r[len(list):cap(r)][i] = n
	}
	return r
}

// kept tells whether a list that roomy made is as it was, all of its room.
func kept(r []int, n int, list []int) bool {
	return slices.Equal(r[:cap(r)], roomy(n, list...)[:cap(r)])
}

// answers puts all that mesh answers of some devices, axes and steps into one list.
func answers(sizes, at []int) []int {
	all := l(mesh.Devices(sizes), mesh.Of(sizes, at))
	if mesh.Right(sizes) {
		all = append(all, 1)
	}
	for d := -1; d < 9; d++ {
		place := mesh.At(sizes, d)
		all = append(append(all, len(place)), place...)
		for axis := -1; axis < 4; axis++ {
			group := mesh.Group(sizes, d, axis)
			all = append(append(all, len(group)), group...)
			all = append(all, mesh.Step(sizes, d, axis, 1), mesh.Step(sizes, d, axis, math.MinInt))
		}
	}
	return all
}

// TestSpareRoom: lists alike but for what lies behind them are answered alike, and are left as they were, all of their room (R2, R5).
func TestSpareRoom(t *testing.T) {
	some := [][]int{nil, l(1), l(8), l(2, 4), l(3, 1, 2), l(2, 2, 2)}
	for _, list := range append(some, allWrong()...) {
		at := make([]int, len(list))
		want := answers(list, at)
		for _, n := range l(0, 1, 2, -1, 9, math.MaxInt, math.MinInt) {
			s, a := roomy(n, list...), roomy(n, at...)
			if !slices.Equal(answers(s, a), want) {
				t.Errorf("%v: spare room of %d changes what is answered", list, n)
			}
			if !kept(s, n, list) || !kept(a, n, at) {
				t.Errorf("%v, spare room of %d: what was handed in is changed", list, n)
			}
		}
	}
}

// TestOneListTwice: sizes may be the place too (R2).
func TestOneListTwice(t *testing.T) {
	for _, list := range append([][]int{nil, l(1), l(2, 4)}, allWrong()...) {
		s := roomy(7, list...)
		if got, want := mesh.Of(s, s), mesh.Of(s, slices.Clone(s)); got != want {
			t.Errorf("Of(%v, itself): %d, not %d", list, got, want)
		}
		if !kept(s, 7, list) {
			t.Errorf("Of(%v, itself): it is changed", list)
		}
	}
}

// scribble writes over all of a list's room.
func scribble(list []int) {
	list = list[:cap(list)]
	for i := range list {
		list[i] = -77
	}
}

// TestAnswersAreNew: writing over an answer changes no list that was handed in, and no other answer (R2, R4).
func TestAnswersAreNew(t *testing.T) {
	for _, sizes := range [][]int{nil, l(1), l(8), l(2, 4), l(1, 1, 1), l(3, 1, 2), l(2, 2, 2), l(9)} {
		s := roomy(7, sizes...)
		want := answers(sizes, nil)
		for d := range mesh.Devices(s) {
			for axis := range s {
				place, group := mesh.At(s, d), mesh.Group(s, d, axis)
				otherPlace, otherGroup := mesh.At(s, d), mesh.Group(s, d, axis)
				wantPlace, wantGroup := slices.Clone(otherPlace), slices.Clone(otherGroup)
				scribble(place)
				scribble(group)
				if !kept(s, 7, sizes) {
					t.Fatalf("%v, device %d: an answer shares its memory", sizes, d)
				}
				if !slices.Equal(otherPlace, wantPlace) || !slices.Equal(otherGroup, wantGroup) {
					t.Fatalf("%v, device %d: two answers share memory", sizes, d)
				}
			}
		}
		if !slices.Equal(answers(s, nil), want) {
			t.Errorf("%v: an answer that was written over changes the next one", sizes)
		}
	}
}

// TestNilAndEmpty: they mean the same (R4).
func TestNilAndEmpty(t *testing.T) {
	for _, sizes := range [][]int{nil, {}, roomy(9), roomy(2, 4)[:0]} {
		if !mesh.Right(sizes) || mesh.Devices(sizes) != 1 || len(mesh.At(sizes, 0)) != 0 {
			t.Errorf("%#v: not one device, at no place", sizes)
		}
		for _, at := range [][]int{nil, {}, roomy(9), roomy(2, 4)[:0]} {
			if mesh.Of(sizes, at) != 0 || mesh.Of(l(3), at) != -1 {
				t.Errorf("Of(%#v, %#v): not as of nothing", sizes, at)
			}
		}
		isNone(t, sizes, 0, 0)
	}
}

// TestAskedAgain: whatever was asked in between, the answers are the same (R4).
func TestAskedAgain(t *testing.T) {
	var first [][]int
	for range 2 {
		var all [][]int
		eachMesh(func(sizes []int) { all = append(all, answers(sizes, sizes)) })
		for _, sizes := range allWrong() {
			all = append(all, answers(sizes, sizes))
		}
		if first == nil {
			first = all
		}
		for i, a := range all {
			if !slices.Equal(a, first[i]) {
				t.Errorf("mesh %d is answered otherwise the second time", i)
			}
		}
	}
}

// TestLongLists: calls end, of long lists too, and no such list is a mesh or a place (R1).
func TestLongLists(t *testing.T) {
	for _, n := range l(0, 1, 2, -1, math.MaxInt, math.MinInt) {
		s := slices.Repeat(l(n), 1<<20)
		if mesh.Right(s) || mesh.Devices(s) != 0 || len(mesh.At(s, 0)) != 0 || mesh.Of(s, s) != -1 || mesh.Of(l(2, 4), s) != -1 || mesh.Of(nil, s) != -1 {
			t.Errorf("a long list of %d passes", n)
		}
		for _, axis := range l(0, 3, len(s)-1) {
			if len(mesh.Group(s, 0, axis)) != 0 || mesh.Step(s, 0, axis, 1) != -1 {
				t.Errorf("a long list of %d passes", n)
			}
		}
	}
}
