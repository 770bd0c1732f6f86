// Tests of the rules R1, R2, R4 and R5 for package spec. (R3: what stands beside a wrong input is asked wherever one is.)
package spec_test

import (
	"math"
	"slices"
	"testing"

	"parquetry/spec"
)

// roomy makes a list with spare room that is full of n.
func roomy(n int, list ...int) []int {
	r := make([]int, len(list), len(list)+6)
	copy(r, list)
	for i := range r[len(list):cap(r)] {
		r[len(list):cap(r)][i] = n
	}
	return r
}

// kept tells whether a list that roomy made is as it was, all of its room.
func kept(r []int, n int, list []int) bool {
	return slices.Equal(r[:cap(r)], roomy(n, list...)[:cap(r)])
}

// answers puts all that spec answers of a mesh and a spec into one list.
func answers(sizes, s []int) []int {
	all := l(spec.Copies(sizes, s))
	for rank := -1; rank < 7; rank++ {
		if spec.Right(sizes, s, rank) {
			all = append(all, rank)
		}
	}
	if spec.Same(sizes, s) {
		all = append(all, -10)
	}
	parts := spec.Parts(sizes, s)
	all = append(append(all, len(parts)), parts...)
	for d := -1; d < 9; d++ {
		all = append(all, spec.First(sizes, s, d))
	}
	return all
}

// pair is a mesh and a spec.
type pair struct{ sizes, spec []int }

// allPairs lists the meshes and specs of both tables.
func allPairs() []pair {
	var all []pair
	for _, c := range rightSpecs {
		all = append(all, pair{c.sizes, c.spec})
	}
	for _, c := range wrongSpecs {
		all = append(all, pair{c.sizes, c.spec})
	}
	return all
}

// TestSpareRoom: lists alike but for what lies behind them are answered alike, and are left as they were, all of their room (R2, R5).
func TestSpareRoom(t *testing.T) {
	for _, p := range allPairs() {
		want := answers(p.sizes, p.spec)
		for _, n := range l(0, 1, 2, -1, 9, math.MaxInt, math.MinInt) {
			sizes, s := roomy(n, p.sizes...), roomy(n, p.spec...)
			if !slices.Equal(answers(sizes, s), want) {
				t.Errorf("%v, %v: spare room of %d changes what is answered", p.sizes, p.spec, n)
			}
			if !kept(sizes, n, p.sizes) || !kept(s, n, p.spec) {
				t.Errorf("%v, %v, spare room of %d: what was handed in is changed", p.sizes, p.spec, n)
			}
		}
	}
}

// TestOneListTwice: sizes may be the spec too (R2).
func TestOneListTwice(t *testing.T) {
	for _, list := range [][]int{nil, l(1), l(2), l(1, 2), l(2, 1), l(2, 1, 3), l(1, 1), l(-1), l(0)} {
		s := roomy(1, list...)
		if got, want := answers(s, s), answers(s, slices.Clone(list)); !slices.Equal(got, want) {
			t.Errorf("%v, itself: %v, not %v", list, got, want)
		}
		if !kept(s, 1, list) {
			t.Errorf("%v, itself: it is changed", list)
		}
	}
}

// scribble writes over all of a list's room.
func scribble(list []int) {
	list = list[:cap(list)]
	for i := range list {
		list[i] = -77
	}
}

// TestPartsAreNew: writing over an answer of Parts changes no list that was handed in, and no other answer (R2, R4).
func TestPartsAreNew(t *testing.T) {
	for _, p := range allPairs() {
		sizes, s := roomy(1, p.sizes...), roomy(1, p.spec...)
		want := answers(sizes, s)
		parts, other := spec.Parts(sizes, s), spec.Parts(sizes, s)
		wantOther := slices.Clone(other)
		scribble(parts)
		if !kept(sizes, 1, p.sizes) || !kept(s, 1, p.spec) {
			t.Fatalf("%v, %v: an answer shares its memory", p.sizes, p.spec)
		}
		if !slices.Equal(other, wantOther) {
			t.Fatalf("%v, %v: two answers share memory", p.sizes, p.spec)
		}
		if !slices.Equal(answers(sizes, s), want) {
			t.Errorf("%v, %v: an answer that was written over changes the next one", p.sizes, p.spec)
		}
	}
}

// TestWholesAreNew: each answer of Whole is memory of its own (R2, R4).
func TestWholesAreNew(t *testing.T) {
	for rank := -1; rank < 6; rank++ {
		first, second := spec.Whole(rank), spec.Whole(rank)
		want := slices.Clone(second)
		scribble(first)
		if !slices.Equal(second, want) {
			t.Errorf("Whole(%d): two answers share memory", rank)
		}
		scribble(second)
		if got := spec.Whole(rank); !slices.Equal(got, want) {
			t.Errorf("Whole(%d): %v behind answers that were written over, not %v", rank, got, want)
		}
	}
}

// TestNilAndEmpty: they mean the same (R4).
func TestNilAndEmpty(t *testing.T) {
	none := [][]int{nil, {}, roomy(9), roomy(0, 2, 4)[:0]}
	for _, a := range none {
		for _, b := range none {
			if !slices.Equal(answers(a, b), answers(nil, nil)) || !spec.Same(a, b) {
				t.Errorf("%#v, %#v: not as of nil", a, b)
			}
		}
		if !slices.Equal(answers(a, l(-1)), answers(nil, l(-1))) || !slices.Equal(answers(l(2, 4), a), answers(l(2, 4), nil)) {
			t.Errorf("%#v: not as nil", a)
		}
	}
}

// TestAskedAgain: whatever was asked in between, the answers are the same (R4).
func TestAskedAgain(t *testing.T) {
	var first [][]int
	for range 2 {
		var all [][]int
		for _, p := range allPairs() {
			all = append(all, answers(p.sizes, p.spec))
		}
		if first == nil {
			first = all
		}
		for i, a := range all {
			if !slices.Equal(a, first[i]) {
				t.Errorf("pair %d is answered otherwise the second time", i)
			}
		}
	}
}

// TestLongLists: calls end, of long lists too; such a list is no mesh, and a spec only if it names no axis twice (R1).
func TestLongLists(t *testing.T) {
	const long = 1 << 20
	for _, n := range l(0, 1, 2, -1, -2, 9, math.MaxInt, math.MinInt) {
		list := slices.Repeat(l(n), long)
		if spec.Right(list, nil, 0) || spec.Right(list, list, long) || len(spec.Parts(list, list)) != 0 || spec.Copies(list, list) != 0 || spec.First(list, list, 0) != -1 {
			t.Errorf("a long list of %d is a mesh", n)
		}
		if got := spec.Right(l(2, 4), list, long); got != (n == -1) {
			t.Errorf("a long list of %d is a spec: %v", n, got)
		}
		if !spec.Same(list, slices.Clone(list)) || spec.Same(list, list[1:]) {
			t.Errorf("Same of long lists of %d", n)
		}
	}
	s := append(slices.Repeat(l(-1), long), 1)
	parts := spec.Parts(l(2, 4), s)
	if !slices.Equal(parts, append(slices.Repeat(l(1), long), 4)) || spec.Copies(l(2, 4), s) != 2 || spec.First(l(2, 4), s, 6) != 2 {
		t.Error("a long spec that names one axis, the last: not parted along it")
	}
	if s = append(s, 1); spec.Right(l(2, 4), s, len(s)) || len(spec.Parts(l(2, 4), s)) != 0 || spec.Copies(l(2, 4), s) != 0 || spec.First(l(2, 4), s, 6) != -1 {
		t.Error("a long spec that names one axis twice passes")
	}
}
