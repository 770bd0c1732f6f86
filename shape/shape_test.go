// Tests of P1.1, and of the rules R1 to R5 for the calls of shape.
package shape_test

import (
	"math"
	"slices"
	"testing"

	"parquetry/api"
	"parquetry/shape"
)

// half is a number that, taken four times, goes round to 0.
const half = math.MaxInt/2 + 1

// rightShapes: each with its Size.
var rightShapes = []struct {
	s    []int
	size int
}{
	{nil, 1},
	{[]int{}, 1},
	{[]int{0}, 0},
	{[]int{1}, 1},
	{[]int{7}, 7},
	{[]int{31}, 31},
	{[]int{api.MaxDim}, 32},
	{[]int{2, 3}, 6},
	{[]int{3, 2}, 6},
	{[]int{32, 32}, 1024},
	{[]int{0, 5}, 0},
	{[]int{5, 0}, 0},
	{[]int{2, 3, 4}, 24},
	{[]int{13, 15, 21}, 4095},
	{[]int{32, 32, 4}, api.MaxElems},
	{[]int{4, 32, 32}, api.MaxElems},
	{[]int{16, 16, 16}, api.MaxElems},
	{[]int{1, 1, 1, 1}, 1},
	{[]int{2, 3, 4, 5}, 120},
	{[]int{8, 8, 8, 8}, api.MaxElems},
	{[]int{32, 1, 32, 4}, api.MaxElems},
	{[]int{0, 0, 0, 0}, 0},
	{[]int{0, 32, 32, 32}, 0},
	{[]int{32, 32, 0, 32}, 0},
	{[]int{32, 32, 32, 0}, 0},
}

// wrongShapes: too many lengths, too great ones, too many numbers, lengths below 0, lengths that go round when multiplied.
var wrongShapes = [][]int{
	{1, 1, 1, 1, 1},
	{0, 0, 0, 0, 0},
	{2, 0, 2, 0, 2},
	{1, 1, 1, 1, 1, 1, 1, 1, 1, 1},
	{api.MaxDim + 1},
	{33, 1},
	{1, 33},
	{0, 33},
	{33, 0},
	{1, 1, 1, 33},
	{0, 0, 0, 33},
	{8, 27, 19},
	{27, 19, 8, 1},
	{32, 32, 5},
	{5, 32, 32},
	{32, 32, 32},
	{9, 8, 8, 8},
	{8, 8, 8, 9},
	{32, 32, 32, 32},
	{-1},
	{-1, -1},
	{-2, -3},
	{0, -1},
	{-1, 0},
	{1, 1, 1, -1},
	{math.MaxInt},
	{math.MinInt},
	{math.MaxInt, math.MaxInt},
	{math.MinInt, math.MinInt},
	{half, 4},
	{half, 2, 2, 1},
	{0, math.MaxInt},
	{math.MinInt, 0},
	{math.MaxInt, 0, math.MinInt},
}

func TestRightOfRightShapes(t *testing.T) {
	for _, c := range rightShapes {
		if !shape.Right(c.s) {
			t.Errorf("Right(%v): false", c.s)
		}
	}
}

func TestRightOfWrongShapes(t *testing.T) {
	for _, s := range wrongShapes {
		if shape.Right(s) {
			t.Errorf("Right(%v): true", s)
		}
	}
}

func TestSize(t *testing.T) {
	for _, c := range rightShapes {
		if got := shape.Size(c.s); got != c.size {
			t.Errorf("Size(%v): %d, not %d", c.s, got, c.size)
		}
	}
	for _, s := range wrongShapes {
		if got := shape.Size(s); got != 0 {
			t.Errorf("Size(%v): %d of one that is not Right", s, got)
		}
	}
}

func TestStrides(t *testing.T) {
	for _, c := range []struct{ s, want []int }{
		{nil, nil},
		{[]int{}, nil},
		{[]int{0}, []int{1}},
		{[]int{1}, []int{1}},
		{[]int{32}, []int{1}},
		{[]int{2, 3}, []int{3, 1}},
		{[]int{3, 2}, []int{2, 1}},
		{[]int{2, 3, 4}, []int{12, 4, 1}},
		{[]int{7, 1, 2, 3}, []int{6, 6, 3, 1}},
		{[]int{1, 1, 1, 1}, []int{1, 1, 1, 1}},
		{[]int{8, 8, 8, 8}, []int{512, 64, 8, 1}},
		{[]int{0, 5}, []int{5, 1}},
		{[]int{5, 0}, []int{0, 1}},
		{[]int{2, 0, 4}, []int{0, 4, 1}},
		{[]int{0, 32, 32, 32}, []int{32768, 1024, 32, 1}},
		{[]int{32, 32, 32, 0}, []int{0, 0, 0, 1}},
	} {
		if got := shape.Strides(c.s); !slices.Equal(got, c.want) {
			t.Errorf("Strides(%v): %v, not %v", c.s, got, c.want)
		}
	}
	for _, s := range wrongShapes {
		if got := shape.Strides(s); len(got) != 0 {
			t.Errorf("Strides(%v): %v of one that is not Right", s, got)
		}
	}
}

func TestIndex(t *testing.T) {
	for _, c := range []struct {
		s, at []int
		want  int
	}{
		{nil, nil, 0},
		{[]int{}, nil, 0},
		{nil, []int{}, 0},
		{[]int{1}, []int{0}, 0},
		{[]int{32}, []int{31}, 31},
		{[]int{2, 3}, []int{0, 0}, 0},
		{[]int{2, 3}, []int{0, 2}, 2},
		{[]int{2, 3}, []int{1, 0}, 3},
		{[]int{2, 3}, []int{1, 2}, 5},
		{[]int{4, 3, 2}, []int{3, 1, 1}, 21},
		{[]int{2, 3, 4, 5}, []int{1, 2, 3, 4}, 119},
		{[]int{2, 3, 4, 5}, []int{1, 0, 2, 3}, 73},
		{[]int{32, 32, 4}, []int{31, 31, 3}, 4095},
	} {
		if got := shape.Index(c.s, c.at); got != c.want {
			t.Errorf("Index(%v, %v): %d, not %d", c.s, c.at, got, c.want)
		}
	}
}

func TestIndexOfNoPlace(t *testing.T) {
	for _, c := range []struct{ s, at []int }{
		{nil, []int{0}},
		{nil, []int{0, 0, 0, 0, 0}},
		{[]int{1}, nil},
		{[]int{2, 3}, nil},
		{[]int{2, 3}, []int{}},
		{[]int{2, 3}, []int{1}},
		{[]int{2, 3}, []int{1, 1, 0}},
		{[]int{2, 3}, []int{0, 0, 0, 0, 0, 0}},
		{[]int{2, 3}, []int{2, 0}},
		{[]int{2, 3}, []int{0, 3}},
		{[]int{2, 3}, []int{0, 5}},
		{[]int{2, 3}, []int{-1, 0}},
		{[]int{2, 3}, []int{0, -1}},
		{[]int{2, 3}, []int{1, -1}},
		{[]int{2, 3}, []int{-1, 5}},
		{[]int{2, 3}, []int{math.MaxInt, 0}},
		{[]int{2, 3}, []int{0, math.MaxInt}},
		{[]int{2, 3}, []int{math.MinInt, math.MaxInt}},
		{[]int{2, 4}, []int{half, 0}},
		{[]int{0}, []int{0}},
		{[]int{0}, []int{-1}},
		{[]int{0, 3}, []int{0, 0}},
		{[]int{3, 0}, []int{0, 0}},
		{[]int{3, 0}, []int{1, -1}},
	} {
		if got := shape.Index(c.s, c.at); got != -1 {
			t.Errorf("Index(%v, %v): %d, not -1", c.s, c.at, got)
		}
	}
	for _, s := range wrongShapes {
		if got := shape.Index(s, make([]int, len(s))); got != -1 {
			t.Errorf("Index(%v, zeroes): %d, not -1", s, got)
		}
		if got := shape.Index(s, nil); got != -1 {
			t.Errorf("Index(%v, nothing): %d, not -1", s, got)
		}
		if got := shape.Index(s, s); got != -1 {
			t.Errorf("Index(%v, itself): %d, not -1", s, got)
		}
	}
}

func TestPlace(t *testing.T) {
	for _, c := range []struct {
		s    []int
		i    int
		want []int
	}{
		{nil, 0, nil},
		{[]int{1}, 0, []int{0}},
		{[]int{32}, 31, []int{31}},
		{[]int{2, 3}, 0, []int{0, 0}},
		{[]int{2, 3}, 2, []int{0, 2}},
		{[]int{2, 3}, 3, []int{1, 0}},
		{[]int{2, 3}, 5, []int{1, 2}},
		{[]int{4, 3, 2}, 21, []int{3, 1, 1}},
		{[]int{2, 3, 4, 5}, 73, []int{1, 0, 2, 3}},
		{[]int{2, 3, 4, 5}, 119, []int{1, 2, 3, 4}},
		{[]int{32, 32, 4}, 4095, []int{31, 31, 3}},
	} {
		if got := shape.Place(c.s, c.i); !slices.Equal(got, c.want) {
			t.Errorf("Place(%v, %d): %v, not %v", c.s, c.i, got, c.want)
		}
	}
}

func TestPlaceOfNoNumber(t *testing.T) {
	for _, c := range rightShapes {
		for _, i := range []int{-1, c.size, c.size + 1, -c.size - 1, api.MaxElems, math.MaxInt, math.MinInt} {
			if got := shape.Place(c.s, i); len(got) != 0 {
				t.Errorf("Place(%v, %d): %v of %d numbers", c.s, i, got, c.size)
			}
		}
	}
	for _, s := range wrongShapes {
		for _, i := range []int{0, 1, -1, math.MaxInt, math.MinInt} {
			if got := shape.Place(s, i); len(got) != 0 {
				t.Errorf("Place(%v, %d): %v of one that is not Right", s, i, got)
			}
		}
	}
}

func TestSame(t *testing.T) {
	for _, c := range []struct {
		a, b []int
		want bool
	}{
		{nil, nil, true},
		{nil, []int{}, true},
		{[]int{}, []int{}, true},
		{nil, []int{0}, false},
		{[]int{0}, []int{0}, true},
		{[]int{1}, []int{2}, false},
		{[]int{2, 3}, []int{2, 3}, true},
		{[]int{2, 3}, []int{3, 2}, false},
		{[]int{2, 3}, []int{2, 4}, false},
		{[]int{2, 3}, []int{1, 3}, false},
		{[]int{2, 3}, []int{2}, false},
		{[]int{2, 3}, []int{2, 3, 1}, false},
		{[]int{2, 3}, []int{2, 3, 0}, false},
		{[]int{2, 3, 4, 5}, []int{2, 3, 9, 5}, false},
		{[]int{-9}, []int{-9}, true},
		{[]int{-9}, []int{9}, false},
		{[]int{33, 99}, []int{33, 99}, true},
		{[]int{33, 99}, []int{33, 98}, false},
		{[]int{1, 2, 3, 4, 5, 6}, []int{1, 2, 3, 4, 5, 6}, true},
		{[]int{1, 2, 3, 4, 5, 6}, []int{1, 2, 3, 4, 5, 7}, false},
		{[]int{math.MaxInt, math.MinInt}, []int{math.MaxInt, math.MinInt}, true},
		{[]int{math.MaxInt}, []int{math.MinInt}, false},
	} {
		if shape.Same(c.a, c.b) != c.want || shape.Same(c.b, c.a) != c.want {
			t.Errorf("Same(%v, %v): not %v both ways round", c.a, c.b, c.want)
		}
	}
}

// eachShape hands over each list of n numbers of lengths, in one list that it fills anew each time.
func eachShape(n int, lengths []int, look func(s []int)) {
	s := make([]int, n)
	var fill func(axis int)
	fill = func(axis int) {
		if axis == n {
			look(s)
			return
		}
		for _, length := range lengths {
			s[axis] = length
			fill(axis + 1)
		}
	}
	fill(0)
}

// TestRightOfAll asks Right, Size and Strides of all lists of lengths about the limits.
func TestRightOfAll(t *testing.T) {
	for n := range api.MaxRank + 2 {
		eachShape(n, []int{-1, 0, 1, 2, 3, 4, 16, 31, 32, 33}, func(s []int) {
			size := 1
			right := n <= api.MaxRank
			for _, length := range s {
				size *= length
				right = right && length >= 0 && length <= api.MaxDim
			}
			right = right && size <= api.MaxElems
			strides := []int{}
			if !right {
				size = 0
			}
			for axis := 0; right && axis < n; axis++ {
				step := 1
				for _, length := range s[axis+1:] {
					step *= length
				}
				strides = append(strides, step)
			}
			if shape.Right(s) != right || shape.Size(s) != size || !slices.Equal(shape.Strides(s), strides) {
				t.Errorf("%v: Right %v, Size %d, Strides %v; not %v, %d, %v", s, shape.Right(s), shape.Size(s), shape.Strides(s), right, size, strides)
			}
		})
	}
}

// TestPlacesInOrder goes through all places of shapes, the last way first, and asks Place and Index of each.
func TestPlacesInOrder(t *testing.T) {
	for n := range api.MaxRank + 1 {
		eachShape(n, []int{1, 2, 3, 5}, func(s []int) {
			at := make([]int, n)
			for i := range shape.Size(s) {
				if got := shape.Place(s, i); !slices.Equal(got, at) {
					t.Errorf("Place(%v, %d): %v, not %v", s, i, got, at)
				}
				if got := shape.Index(s, at); got != i {
					t.Errorf("Index(%v, %v): %d, not %d", s, at, got, i)
				}
				for axis := n - 1; axis >= 0; axis-- {
					at[axis]++
					if at[axis] < s[axis] {
						break
					}
					at[axis] = 0
				}
			}
		})
	}
}

// TestOnePlaceBeyond asks Index of places that are off by one along just one axis.
func TestOnePlaceBeyond(t *testing.T) {
	s := []int{2, 3, 4, 5}
	for axis, length := range s {
		for _, off := range []int{-1, length, length + 1} {
			at := []int{1, 1, 1, 1}
			at[axis] = off
			if got := shape.Index(s, at); got != -1 {
				t.Errorf("Index(%v, %v): %d, not -1", s, at, got)
			}
		}
	}
}

// roomy makes a list with spare room that is full of n.
func roomy(n int, l ...int) []int {
	r := make([]int, len(l), len(l)+6)
	copy(r, l)
	for i := range r[len(l):cap(r)] {
		r[len(l):cap(r)][i] = n
	}
	return r
}

// TestSpareRoom: lists alike but for what lies behind them are answered alike, and are left as they were, all of their room (R2, R5).
func TestSpareRoom(t *testing.T) {
	for _, n := range []int{0, 1, -1, 33, math.MaxInt} {
		s, at := roomy(n, 4, 3, 2), roomy(n, 3, 1, 1)
		if !shape.Right(s) || shape.Size(s) != 24 || !slices.Equal(shape.Strides(s), []int{6, 2, 1}) || shape.Index(s, at) != 21 || !slices.Equal(shape.Place(s, 21), []int{3, 1, 1}) {
			t.Errorf("spare room of %d changes what is answered", n)
		}
		if !shape.Same(s, []int{4, 3, 2}) || !shape.Same(s, roomy(n+1, 4, 3, 2)) || shape.Same(s, s[:4]) {
			t.Errorf("Same: spare room of %d changes what is answered", n)
		}
		if !slices.Equal(s[:cap(s)], roomy(n, 4, 3, 2)[:cap(s)]) || !slices.Equal(at[:cap(at)], roomy(n, 3, 1, 1)[:cap(at)]) {
			t.Errorf("spare room of %d: what was handed in is changed", n)
		}
	}
}

// TestHandedInIsKept: no call changes a list, be it Right or not (R2).
func TestHandedInIsKept(t *testing.T) {
	for _, l := range append([][]int{{2, 3}, {2, 0, 4}, {4, 3, 2, 1}}, wrongShapes...) {
		s, at := roomy(7, l...), roomy(8, make([]int, len(l))...)
		shape.Right(s)
		shape.Size(s)
		shape.Strides(s)
		shape.Index(s, at)
		shape.Place(s, 0)
		shape.Same(s, at)
		if !slices.Equal(s[:cap(s)], roomy(7, l...)[:cap(s)]) || !slices.Equal(at[:cap(at)], roomy(8, make([]int, len(l))...)[:cap(at)]) {
			t.Errorf("%v: changed", l)
		}
	}
}

// scribble writes over all of a list's room.
func scribble(l []int) {
	l = l[:cap(l)]
	for i := range l {
		l[i] = -77
	}
}

// TestAnswersAreNew: writing over an answer changes no list that was handed in, and no other answer (R2).
func TestAnswersAreNew(t *testing.T) {
	for _, l := range [][]int{nil, {5}, {1, 1}, {2, 3}, {7, 1, 2, 3}, {1, 1, 1, 1}} {
		s := roomy(7, l...)
		strides, place := shape.Strides(s), shape.Place(s, 0)
		moreStrides, morePlace := shape.Strides(s), shape.Place(s, 0)
		wantStrides, wantPlace := slices.Clone(moreStrides), slices.Clone(morePlace)
		scribble(strides)
		scribble(place)
		if !slices.Equal(s[:cap(s)], roomy(7, l...)[:cap(s)]) {
			t.Errorf("%v: an answer shares its memory", l)
		}
		if !slices.Equal(moreStrides, wantStrides) || !slices.Equal(morePlace, wantPlace) {
			t.Errorf("%v: two answers share memory", l)
		}
		if !slices.Equal(shape.Strides(s), wantStrides) || !slices.Equal(shape.Place(s, 0), wantPlace) {
			t.Errorf("%v: an answer that was written over changes the next one", l)
		}
	}
}

// TestNilAndEmpty: they mean the same (R4).
func TestNilAndEmpty(t *testing.T) {
	for _, s := range [][]int{nil, {}, roomy(9)} {
		if !shape.Right(s) || shape.Size(s) != 1 || len(shape.Strides(s)) != 0 || len(shape.Place(s, 0)) != 0 || len(shape.Place(s, 1)) != 0 {
			t.Errorf("%#v: not as of no axes", s)
		}
		for _, at := range [][]int{nil, {}, roomy(9)} {
			if shape.Index(s, at) != 0 || !shape.Same(s, at) {
				t.Errorf("%#v, %#v: not alike", s, at)
			}
		}
	}
}

// TestLongLists: calls end, of long lists too (R1).
func TestLongLists(t *testing.T) {
	for _, n := range []int{0, 1, -1, math.MaxInt, math.MinInt} {
		s := slices.Repeat([]int{n}, 1<<20)
		if shape.Right(s) || shape.Size(s) != 0 || len(shape.Strides(s)) != 0 || shape.Index(s, s) != -1 || shape.Index([]int{2, 3}, s) != -1 || len(shape.Place(s, 0)) != 0 {
			t.Errorf("a long list of %d passes", n)
		}
		other := slices.Clone(s)
		if !shape.Same(s, other) {
			t.Errorf("Same: long lists of %d are not", n)
		}
		other[len(other)-1]++
		if shape.Same(s, other) {
			t.Errorf("Same: long lists of %d but for the last number are", n)
		}
	}
}
