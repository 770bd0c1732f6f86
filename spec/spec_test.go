// Tests of P15.1 against tables written by hand: each function of spec at ordinary inputs, at the edges, and at wrong ones.
// (model_test.go holds them against devices that are counted one by one, rules_test.go asks for the rules.)
package spec_test

import (
	"math"
	"slices"
	"testing"

	"parquetry/api"
	"parquetry/spec"
)

// l makes a list.
func l(n ...int) []int { return n }

// ends are numbers near the ends of an int, and of one of 32 bits.
var ends = l(math.MinInt, math.MinInt+1, math.MinInt32, math.MaxInt32, math.MaxInt32+1, math.MaxInt-1, math.MaxInt)

// rightSpecs: each with its Parts, its Copies, and each device's First.
var rightSpecs = []struct {
	sizes, spec, parts []int
	copies             int
	first              []int
}{
	{nil, nil, nil, 1, l(0)},
	{l(), l(), l(), 1, l(0)},
	{nil, l(-1), l(1), 1, l(0)},
	{nil, l(-1, -1, -1, -1), l(1, 1, 1, 1), 1, l(0)},
	{l(1), nil, nil, 1, l(0)},
	{l(1), l(0), l(1), 1, l(0)},
	{l(1), l(-1), l(1), 1, l(0)},
	{l(3), nil, nil, 3, l(0, 0, 0)},
	{l(3), l(-1), l(1), 3, l(0, 0, 0)},
	{l(3), l(0), l(3), 1, l(0, 1, 2)},
	{l(3), l(-1, 0), l(1, 3), 1, l(0, 1, 2)},
	{l(3), l(0, -1), l(3, 1), 1, l(0, 1, 2)},
	{l(8), l(-1, -1, 0, -1), l(1, 1, 8, 1), 1, l(0, 1, 2, 3, 4, 5, 6, 7)},
	{l(8), l(-1, -1, -1, -1), l(1, 1, 1, 1), 8, l(0, 0, 0, 0, 0, 0, 0, 0)},
	{l(2, 4), nil, nil, 8, l(0, 0, 0, 0, 0, 0, 0, 0)},
	{l(2, 4), l(-1), l(1), 8, l(0, 0, 0, 0, 0, 0, 0, 0)},
	{l(2, 4), l(0), l(2), 4, l(0, 0, 0, 0, 4, 4, 4, 4)},
	{l(2, 4), l(1), l(4), 2, l(0, 1, 2, 3, 0, 1, 2, 3)},
	{l(2, 4), l(0, 1), l(2, 4), 1, l(0, 1, 2, 3, 4, 5, 6, 7)},
	{l(2, 4), l(1, 0), l(4, 2), 1, l(0, 1, 2, 3, 4, 5, 6, 7)},
	{l(2, 4), l(1, -1, 0), l(4, 1, 2), 1, l(0, 1, 2, 3, 4, 5, 6, 7)},
	{l(2, 4), l(-1, -1, -1, 1), l(1, 1, 1, 4), 2, l(0, 1, 2, 3, 0, 1, 2, 3)},
	{l(4, 2), l(0), l(4), 2, l(0, 0, 2, 2, 4, 4, 6, 6)},
	{l(4, 2), l(-1, 1), l(1, 2), 4, l(0, 1, 0, 1, 0, 1, 0, 1)},
	{l(2, 3), l(0), l(2), 3, l(0, 0, 0, 3, 3, 3)},
	{l(2, 3), l(1), l(3), 2, l(0, 1, 2, 0, 1, 2)},
	{l(3, 2), l(0, -1), l(3, 1), 2, l(0, 0, 2, 2, 4, 4)},
	{l(1, 3), l(0), l(1), 3, l(0, 0, 0)},
	{l(1, 3), l(1), l(3), 1, l(0, 1, 2)},
	{l(3, 1), l(1), l(1), 3, l(0, 0, 0)},
	{l(1, 1, 1), l(2, 0, 1), l(1, 1, 1), 1, l(0)},
	{l(2, 2, 2), l(0), l(2), 4, l(0, 0, 0, 0, 4, 4, 4, 4)},
	{l(2, 2, 2), l(1), l(2), 4, l(0, 0, 2, 2, 0, 0, 2, 2)},
	{l(2, 2, 2), l(2), l(2), 4, l(0, 1, 0, 1, 0, 1, 0, 1)},
	{l(2, 2, 2), l(0, 1), l(2, 2), 2, l(0, 0, 2, 2, 4, 4, 6, 6)},
	{l(2, 2, 2), l(2, 0), l(2, 2), 2, l(0, 1, 0, 1, 4, 5, 4, 5)},
	{l(2, 2, 2), l(-1, 2, 1), l(1, 2, 2), 2, l(0, 1, 2, 3, 0, 1, 2, 3)},
	{l(2, 2, 2), l(2, -1, 0, 1), l(2, 1, 2, 2), 1, l(0, 1, 2, 3, 4, 5, 6, 7)},
	{l(3, 1, 2), l(1, 2), l(1, 2), 3, l(0, 1, 0, 1, 0, 1)},
	{l(3, 1, 2), l(1, 0), l(1, 3), 2, l(0, 0, 2, 2, 4, 4)},
	{l(2), l(0, -1, -1, -1, -1), l(2, 1, 1, 1, 1), 1, l(0, 1)},
	{l(2), l(-1, -1, -1, -1, -1, -1, -1, -1, -1, 0), l(1, 1, 1, 1, 1, 1, 1, 1, 1, 2), 1, l(0, 1)},
}

// wrongSpecs: axes that the mesh has not, axes named twice, and meshes that may not be.
var wrongSpecs = []struct{ sizes, spec []int }{
	{nil, l(0)},
	{nil, l(1)},
	{nil, l(-2)},
	{nil, l(-1, -1, 0)},
	{l(1), l(1)},
	{l(1), l(-2)},
	{l(1), l(0, 0)},
	{l(2), l(1)},
	{l(2), l(2)},
	{l(2), l(3)},
	{l(2), l(-2)},
	{l(2), l(-3)},
	{l(2), l(0, 0)},
	{l(2), l(0, 1)},
	{l(2), l(1, 0)},
	{l(2), l(0, -2)},
	{l(2), l(-2, 0)},
	{l(2), l(-1, -2)},
	{l(2), l(0, -1, 0)},
	{l(2), l(-1, -1, -1, 1)},
	{l(2), l(0, 0, 0, 0)},
	{l(2), l(0, -1, -1, -1, -1, -1, 0)},
	{l(2), l(math.MinInt)},
	{l(2), l(math.MaxInt)},
	{l(2), l(0, math.MinInt)},
	{l(2), l(-1, math.MaxInt)},
	{l(2), l(math.MaxInt, math.MaxInt)},
	{l(2, 4), l(2)},
	{l(2, 4), l(0, 2)},
	{l(2, 4), l(2, 0)},
	{l(2, 4), l(1, 1)},
	{l(2, 4), l(1, -1, 1)},
	{l(2, 4), l(0, 1, 0)},
	{l(2, 4), l(0, 1, 1)},
	{l(2, 4), l(0, 1, 2)},
	{l(2, 4), l(0, 1, -1, 4)},
	{l(2, 2, 2), l(3)},
	{l(2, 2, 2), l(0, 1, 2, 3)},
	{l(2, 2, 2), l(0, 1, 2, 0)},
	{l(2, 2, 2), l(2, 1, 0, 2)},
	{l(2, 2, 2), l(2, 2)},
	{l(2, 2, 2), l(-1, -1, -1, -8)},
	{l(0), nil},
	{l(0), l(0)},
	{l(0), l(-1)},
	{l(-1), nil},
	{l(-1), l(-1)},
	{l(-5), l(0)},
	{l(-2, -4), l(1)},
	{l(2, 0), l(0)},
	{l(0, 2), l(1)},
	{l(9), nil},
	{l(9), l(0)},
	{l(1, 9), l(0)},
	{l(3, 3), l(-1)},
	{l(3, 3), l(0)},
	{l(2, 5), l(0)},
	{l(8, 2), l(1, 0)},
	{l(2, 2, 3), l(0)},
	{l(1, 1, 1, 1), nil},
	{l(1, 1, 1, 1), l(0)},
	{l(1, 1, 1, 1), l(3)},
	{l(1, 1, 1, 1), l(0, 1, 2, 3)},
	{l(2, 2, 2, 1), l(-1)},
	{l(2, 4, 0, 0), l(0)},
	{l(math.MaxInt), l(0)},
	{l(math.MinInt), l(-1)},
	{l(math.MaxInt, math.MaxInt), l(0, 1)},
	{l(math.MaxInt/2+1, 4), l(0)},
	{l(math.MaxInt/2+1, 2, 2), l(-1)},
	{l(math.MinInt, math.MinInt), nil},
}

func TestRight(t *testing.T) {
	for _, c := range rightSpecs {
		if !spec.Right(c.sizes, c.spec, len(c.spec)) {
			t.Errorf("Right(%v, %v, %d): false", c.sizes, c.spec, len(c.spec))
		}
	}
	for _, c := range wrongSpecs {
		if spec.Right(c.sizes, c.spec, len(c.spec)) {
			t.Errorf("Right(%v, %v, %d): true", c.sizes, c.spec, len(c.spec))
		}
	}
}

// TestRightOfAnotherRank: a spec has as many numbers as the tensor has axes.
func TestRightOfAnotherRank(t *testing.T) {
	for _, c := range rightSpecs {
		for _, rank := range append(l(-1, -2, 0, 1, 2, 3, 4, 5, 6, 10, 11, len(c.spec)-1, len(c.spec)+1, -len(c.spec)), ends...) {
			if rank != len(c.spec) && spec.Right(c.sizes, c.spec, rank) {
				t.Errorf("Right(%v, %v, %d): true", c.sizes, c.spec, rank)
			}
		}
	}
	for _, c := range wrongSpecs {
		for _, rank := range append(l(-1, 0, 1, 2, 3, 4, 5), ends...) {
			if spec.Right(c.sizes, c.spec, rank) {
				t.Errorf("Right(%v, %v, %d): true", c.sizes, c.spec, rank)
			}
		}
	}
}

func TestParts(t *testing.T) {
	for _, c := range rightSpecs {
		if got := spec.Parts(c.sizes, c.spec); !slices.Equal(got, c.parts) {
			t.Errorf("Parts(%v, %v): %v, not %v", c.sizes, c.spec, got, c.parts)
		}
	}
	for _, c := range wrongSpecs {
		if got := spec.Parts(c.sizes, c.spec); len(got) != 0 {
			t.Errorf("Parts(%v, %v): %v of a spec that is not Right", c.sizes, c.spec, got)
		}
	}
}

func TestCopies(t *testing.T) {
	for _, c := range rightSpecs {
		if got := spec.Copies(c.sizes, c.spec); got != c.copies {
			t.Errorf("Copies(%v, %v): %d, not %d", c.sizes, c.spec, got, c.copies)
		}
	}
	for _, c := range wrongSpecs {
		if got := spec.Copies(c.sizes, c.spec); got != 0 {
			t.Errorf("Copies(%v, %v): %d of a spec that is not Right", c.sizes, c.spec, got)
		}
	}
}

func TestWhole(t *testing.T) {
	for rank, want := range [][]int{nil, l(-1), l(-1, -1), l(-1, -1, -1), l(-1, -1, -1, -1)} {
		if got := spec.Whole(rank); !slices.Equal(got, want) {
			t.Errorf("Whole(%d): %v, not %v", rank, got, want)
		}
	}
	for _, rank := range append(l(-1, -2, -4, -5, api.MaxRank+1, api.MaxRank+2, api.MaxDim), ends...) {
		if got := spec.Whole(rank); len(got) != 0 {
			t.Errorf("Whole(%d): %v, not none", rank, got)
		}
	}
}

func TestSame(t *testing.T) {
	for _, c := range []struct {
		a, b []int
		want bool
	}{
		{nil, nil, true},
		{nil, l(), true},
		{nil, l(-1), false},
		{nil, l(0), false},
		{l(-1), l(-1), true},
		{l(-1), l(0), false},
		{l(-1), l(1), false},
		{l(0), l(0), true},
		{l(0), l(1), false},
		{l(0), l(0, -1), false},
		{l(-1), l(-1, -1), false},
		{l(0, -1), l(-1, 0), false},
		{l(1, 0), l(0, 1), false},
		{l(0, 1, -1), l(0, 1, -1), true},
		{l(0, 1, -1), l(0, 2, -1), false},
		{l(2, 1, -1, 0), l(2, 1, -1, 0), true},
		{l(2, 1, -1, 0), l(2, 1, -1, -1), false},
		{l(2, 1, -1, 0), l(2, 1, -1), false},
		{l(-1, -1, -1, -1), spec.Whole(4), true},
		{l(0, 0), l(0, 0), true},
		{l(-2, 9), l(-2, 9), true},
		{l(-2, 9), l(-1, 9), false},
		{l(0, 1, 2, 3, 4, 5), l(0, 1, 2, 3, 4, 5), true},
		{l(0, 1, 2, 3, 4, 5), l(0, 1, 2, 3, 4, 6), false},
		{l(math.MinInt, math.MaxInt), l(math.MinInt, math.MaxInt), true},
		{l(math.MinInt), l(math.MaxInt), false},
		{l(math.MinInt), l(0), false},
	} {
		if spec.Same(c.a, c.b) != c.want || spec.Same(c.b, c.a) != c.want {
			t.Errorf("Same(%v, %v): not %v both ways round", c.a, c.b, c.want)
		}
	}
}

func TestFirst(t *testing.T) {
	for _, c := range rightSpecs {
		for d, want := range c.first {
			if got := spec.First(c.sizes, c.spec, d); got != want {
				t.Errorf("First(%v, %v, %d): %d, not %d", c.sizes, c.spec, d, got, want)
			}
		}
	}
}

// notOf are numbers of no device of a mesh of n.
func notOf(n int) []int {
	return append(l(-1, -2, -n, -n-1, n, n+1, 2*n, n+api.MaxDevices), ends...)
}

func TestFirstOfNone(t *testing.T) {
	for _, c := range rightSpecs {
		for _, d := range notOf(len(c.first)) {
			if got := spec.First(c.sizes, c.spec, d); got != -1 {
				t.Errorf("First(%v, %v, %d): %d, not -1", c.sizes, c.spec, d, got)
			}
		}
	}
	for _, c := range wrongSpecs {
		for _, d := range append(l(0, 1, 2, 3, 7), notOf(8)...) {
			if got := spec.First(c.sizes, c.spec, d); got != -1 {
				t.Errorf("First(%v, %v, %d): %d of a spec that is not Right", c.sizes, c.spec, d, got)
			}
		}
	}
}
