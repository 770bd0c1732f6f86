// Tests of P2.1, and of the rules R1 to R5 for the calls of tensor.
package tensor_test

import (
	"math"
	"slices"
	"testing"

	"parquetry/api"
	"parquetry/tensor"
)

// half is a length that, taken four times, goes round to 0.
const half = math.MaxInt/2 + 1

// rightShapes: each with how many numbers a tensor of it has.
var rightShapes = []struct {
	s    []int
	size int
}{
	{nil, 1},
	{[]int{}, 1},
	{[]int{0}, 0},
	{[]int{1}, 1},
	{[]int{5}, 5},
	{[]int{31}, 31},
	{[]int{api.MaxDim}, 32},
	{[]int{2, 3}, 6},
	{[]int{3, 2}, 6},
	{[]int{0, 3}, 0},
	{[]int{3, 0}, 0},
	{[]int{1, 32}, 32},
	{[]int{32, 1}, 32},
	{[]int{2, 1, 3}, 6},
	{[]int{2, 3, 4}, 24},
	{[]int{13, 15, 21}, 4095},
	{[]int{32, 32, 4}, api.MaxElems},
	{[]int{4, 32, 32}, api.MaxElems},
	{[]int{1, 1, 1, 1}, 1},
	{[]int{2, 3, 4, 5}, 120},
	{[]int{8, 8, 8, 8}, api.MaxElems},
	{[]int{0, 32, 32, 32}, 0},
	{[]int{32, 32, 32, 0}, 0},
	{[]int{0, 0, 0, 0}, 0},
}

// wrongShapes: too many lengths, too great ones, too many numbers, lengths below 0, lengths that go round when multiplied.
var wrongShapes = [][]int{
	{1, 1, 1, 1, 1},
	{0, 0, 0, 0, 0},
	{api.MaxDim + 1},
	{33, 1},
	{0, 33},
	{33, 0},
	{1, 1, 1, 33},
	{8, 27, 19},
	{32, 32, 5},
	{32, 32, 32, 32},
	{-1},
	{-1, -1},
	{-2, -3},
	{0, -1},
	{-1, 0},
	{math.MaxInt},
	{math.MinInt},
	{half, 4},
	{half, 2, 2, 1},
	{0, math.MaxInt},
	{math.MinInt, 0},
}

// numbers at the ends of their range, and about 0.
var numbers = []int64{0, 1, -1, 7, math.MaxInt64, math.MinInt64}

func of(s []int, l ...int64) api.Tensor { return api.Tensor{Shape: s, Data: l} }

// counted makes a tensor of s with size numbers, each unlike the others.
func counted(s []int, size int) api.Tensor {
	t := api.Tensor{Shape: s}
	for i := range size {
		t.Data = append(t.Data, int64(i)*3-1)
	}
	return t
}

// alike holds shapes and numbers against each other, asking nothing of package tensor.
func alike(a, b api.Tensor) bool {
	return slices.Equal(a.Shape, b.Shape) && slices.Equal(a.Data, b.Data)
}

func nothing(t api.Tensor) bool { return len(t.Shape) == 0 && len(t.Data) == 0 }

// eachPlace hands over each place of s, the last way first, with its number; in one list that is filled anew each time.
func eachPlace(s []int, size int, look func(i int, at []int)) {
	at := make([]int, len(s))
	for i := range size {
		look(i, at)
		for axis := len(s) - 1; axis >= 0; axis-- {
			at[axis]++
			if at[axis] < s[axis] {
				break
			}
			at[axis] = 0
		}
	}
}

func TestRight(t *testing.T) {
	for _, c := range rightShapes {
		for _, size := range []int{0, 1, c.size - 1, c.size, c.size + 1, 2 * c.size, api.MaxElems, api.MaxElems + 1} {
			if size < 0 {
				continue
			}
			x := counted(c.s, size)
			if got := tensor.Right(x); got != (size == c.size) {
				t.Errorf("Right of %v with %d numbers: %v", c.s, size, got)
			}
		}
	}
}

func TestRightOfWrongShapes(t *testing.T) {
	for _, s := range wrongShapes {
		for _, size := range []int{0, 1, 2, 6, 33, api.MaxElems, api.MaxElems + 1, 5120} {
			if tensor.Right(counted(s, size)) {
				t.Errorf("Right of %v with %d numbers: true", s, size)
			}
		}
	}
}

func TestFill(t *testing.T) {
	for _, c := range rightShapes {
		for _, n := range numbers {
			got, why := tensor.Fill(c.s, n)
			want := api.Tensor{Shape: c.s, Data: slices.Repeat([]int64{n}, c.size)}
			if why != api.OK || !alike(got, want) {
				t.Errorf("Fill(%v, %d): %v, %d", c.s, n, got, int(why))
			}
			if !tensor.Right(got) {
				t.Errorf("Fill(%v, %d): not Right", c.s, n)
			}
		}
	}
	for _, s := range wrongShapes {
		if got, why := tensor.Fill(s, 7); why != api.ErrShape || !nothing(got) {
			t.Errorf("Fill(%v, 7): %v, %d", s, got, int(why))
		}
	}
}

func TestIota(t *testing.T) {
	for _, c := range []struct {
		s    []int
		axis int
		want []int64
	}{
		{[]int{2, 2}, 0, []int64{0, 0, 1, 1}},
		{[]int{2, 2}, 1, []int64{0, 1, 0, 1}},
		{[]int{4}, 0, []int64{0, 1, 2, 3}},
		{[]int{1}, 0, []int64{0}},
		{[]int{0}, 0, nil},
		{[]int{0, 3}, 0, nil},
		{[]int{0, 3}, 1, nil},
		{[]int{3, 0}, 0, nil},
		{[]int{2, 1, 3}, 0, []int64{0, 0, 0, 1, 1, 1}},
		{[]int{2, 1, 3}, 1, []int64{0, 0, 0, 0, 0, 0}},
		{[]int{2, 1, 3}, 2, []int64{0, 1, 2, 0, 1, 2}},
		{[]int{2, 3, 2}, 1, []int64{0, 0, 1, 1, 2, 2, 0, 0, 1, 1, 2, 2}},
	} {
		got, why := tensor.Iota(c.s, c.axis)
		if why != api.OK || !alike(got, of(c.s, c.want...)) {
			t.Errorf("Iota(%v, %d): %v, %d", c.s, c.axis, got, int(why))
		}
	}
}

// TestIotaOfAll asks each number of each axis of all shapes.
func TestIotaOfAll(t *testing.T) {
	for _, c := range rightShapes {
		for axis := range c.s {
			want := api.Tensor{Shape: c.s}
			eachPlace(c.s, c.size, func(i int, at []int) {
				want.Data = append(want.Data, int64(at[axis]))
			})
			got, why := tensor.Iota(c.s, axis)
			if why != api.OK || !alike(got, want) {
				t.Errorf("Iota(%v, %d): %v, %d", c.s, axis, got, int(why))
			}
		}
	}
}

func TestIotaOfNoAxis(t *testing.T) {
	for _, c := range rightShapes {
		for _, axis := range []int{-1, len(c.s), len(c.s) + 1, -len(c.s) - 1, math.MaxInt, math.MinInt} {
			if got, why := tensor.Iota(c.s, axis); why != api.ErrArg || !nothing(got) {
				t.Errorf("Iota(%v, %d): %v, %d", c.s, axis, got, int(why))
			}
		}
	}
}

// TestIotaOfWrongShapes: ErrShape comes first, be the axis one of s or none (R3).
func TestIotaOfWrongShapes(t *testing.T) {
	for _, s := range wrongShapes {
		for _, axis := range []int{0, len(s) - 1, -1, len(s), math.MaxInt, math.MinInt} {
			if got, why := tensor.Iota(s, axis); why != api.ErrShape || !nothing(got) {
				t.Errorf("Iota(%v, %d): %v, %d", s, axis, got, int(why))
			}
		}
	}
}

// TestEachPlace gets and sets each number of all shapes: what is set is at its place, and nowhere else.
func TestEachPlace(t *testing.T) {
	for _, c := range rightShapes {
		x := counted(c.s, c.size)
		eachPlace(c.s, c.size, func(i int, at []int) {
			if n, ok := tensor.Get(x, at...); n != x.Data[i] || !ok {
				t.Errorf("Get of %v, %v: %d, %v, not %d", c.s, at, n, ok, x.Data[i])
			}
			want := counted(c.s, c.size)
			want.Data[i] = -99
			if got, ok := tensor.Set(x, -99, at...); !alike(got, want) || !ok {
				t.Errorf("Set of %v, %v: %v, %v", c.s, at, got, ok)
			}
		})
		if !alike(x, counted(c.s, c.size)) {
			t.Errorf("Get, Set of %v: changed what was handed in", c.s)
		}
	}
}

func TestSetOfAnyNumber(t *testing.T) {
	for _, n := range numbers {
		got, ok := tensor.Set(of([]int{3}, 5, 6, 8), n, 1)
		if !alike(got, of([]int{3}, 5, n, 8)) || !ok {
			t.Errorf("Set of %d: %v, %v", n, got, ok)
		}
		if back, ok := tensor.Get(got, 1); back != n || !ok {
			t.Errorf("Get of %d: %d, %v", n, back, ok)
		}
		if got, ok := tensor.Set(of(nil, 5), n); !alike(got, of(nil, n)) || !ok {
			t.Errorf("Set of %d, rank 0: %v, %v", n, got, ok)
		}
		if back, ok := tensor.Get(of(nil, n)); back != n || !ok {
			t.Errorf("Get of %d, rank 0: %d, %v", n, back, ok)
		}
	}
}

// refused tells whether Get and Set both tell false, and nothing beside it.
func refused(t *testing.T, x api.Tensor, at ...int) {
	t.Helper()
	if n, ok := tensor.Get(x, at...); n != 0 || ok {
		t.Errorf("Get of %v, %v: %d, %v", x, at, n, ok)
	}
	if got, ok := tensor.Set(x, 99, at...); !nothing(got) || ok {
		t.Errorf("Set of %v, %v: %v, %v", x, at, got, ok)
	}
}

func TestNoPlace(t *testing.T) {
	x := of([]int{2, 3}, 1, 2, 3, 4, 5, 6)
	for _, at := range [][]int{
		nil,
		{},
		{1},
		{0},
		{1, 1, 0},
		{0, 0, 0, 0, 0, 0},
		{2, 0},
		{0, 3},
		{0, 5},
		{-1, 0},
		{0, -1},
		{1, -1},
		{-1, 5},
		{math.MaxInt, 0},
		{0, math.MaxInt},
		{math.MinInt, 0},
		{math.MaxInt, math.MinInt},
		{half, 0},
	} {
		refused(t, x, at...)
	}
	refused(t, of(nil, 8), 0)
	refused(t, of(nil, 8), -1)
	refused(t, of(nil, 8), 0, 0)
	refused(t, of([]int{1}, 8))
	refused(t, of([]int{1}, 8), 1)
	refused(t, of([]int{0}))
	refused(t, of([]int{0}), 0)
	refused(t, of([]int{0}), -1)
	refused(t, of([]int{0, 3}), 0, 0)
	refused(t, of([]int{3, 0}), 0, 0)
}

// TestPlacesOfWrongTensors: a tensor that is not Right has no place, though its shape, its numbers, or both would have one.
func TestPlacesOfWrongTensors(t *testing.T) {
	refused(t, api.Tensor{})
	refused(t, of(nil, 1, 2))
	refused(t, of([]int{2}, 1), 0)
	refused(t, of([]int{2}, 1), 1)
	refused(t, of([]int{2}, 1, 2, 3), 0)
	refused(t, of([]int{2}, 1, 2, 3), 1)
	refused(t, of([]int{2, 2}, 1, 2, 3), 0, 0)
	refused(t, of([]int{2, 2}), 1, 1)
	refused(t, of([]int{0}, 1), 0)
	refused(t, counted([]int{32, 32, 4}, api.MaxElems-1), 0, 0, 0)
	refused(t, counted([]int{32, 32, 4}, api.MaxElems+1), 0, 0, 0)
	for _, s := range wrongShapes {
		for _, size := range []int{0, 1, 2, 33, 5120} {
			refused(t, counted(s, size), make([]int, len(s))...)
		}
		refused(t, counted(s, 33))
		refused(t, counted(s, 33), s...)
	}
}

func TestSame(t *testing.T) {
	x := of([]int{2, 3}, 1, 2, 3, 4, 5, 6)
	for _, c := range []struct {
		a, b api.Tensor
		want bool
	}{
		{x, x, true},
		{x, of([]int{2, 3}, 1, 2, 3, 4, 5, 6), true},
		{x, of([]int{3, 2}, 1, 2, 3, 4, 5, 6), false},
		{x, of([]int{6}, 1, 2, 3, 4, 5, 6), false},
		{x, of([]int{2, 3, 1}, 1, 2, 3, 4, 5, 6), false},
		{x, of([]int{2, 3}, 0, 2, 3, 4, 5, 6), false},
		{x, of([]int{2, 3}, 1, 2, 9, 4, 5, 6), false},
		{x, of([]int{2, 3}, 1, 2, 3, 4, 5, 7), false},
		{x, of([]int{2, 3}, 1, 2, 3, 4, 5), false},
		{x, of([]int{2, 3}, 1, 2, 3, 4, 5, 6, 0), false},
		{x, of([]int{2, 3}), false},
		{x, of(nil, 1, 2, 3, 4, 5, 6), false},
		{x, api.Tensor{}, false},
		{of(nil, 1), of(nil, 1), true},
		{of(nil, 1), of(nil, 2), false},
		{of(nil, 1), of([]int{1}, 1), false},
		{of([]int{0}), of([]int{0}), true},
		{of([]int{0}), of([]int{0, 0}), false},
		{of([]int{0, 2}), of([]int{0, 3}), false},
		{of([]int{0}), api.Tensor{}, false},
		{of([]int{1}, math.MaxInt64), of([]int{1}, math.MaxInt64), true},
		{of([]int{1}, math.MaxInt64), of([]int{1}, math.MinInt64), false},
		{of([]int{1}, 0), of([]int{1}, 1<<32), false},
		{api.Tensor{}, api.Tensor{}, true},
		{of([]int{-5}, 1), of([]int{-5}, 1), true},
		{of([]int{-5}, 1), of([]int{-5}, 2), false},
		{of([]int{-5}, 1), of([]int{5}, 1), false},
		{of([]int{33, 99, 1, 1, 1}, 1, 2), of([]int{33, 99, 1, 1, 1}, 1, 2), true},
		{of([]int{33, 99, 1, 1, 1}, 1, 2), of([]int{33, 99, 1, 1, 2}, 1, 2), false},
		{of([]int{2}, 1, 2, 3), of([]int{2}, 1, 2, 3), true},
		{of([]int{2}, 1, 2, 3), of([]int{2}, 1, 2, 4), false},
		{of([]int{2}, 1, 2, 3), of([]int{2}, 1, 2), false},
		{of([]int{math.MinInt}), of([]int{math.MaxInt}), false},
	} {
		if tensor.Same(c.a, c.b) != c.want || tensor.Same(c.b, c.a) != c.want {
			t.Errorf("Same(%v, %v): not %v both ways round", c.a, c.b, c.want)
		}
	}
}

// TestSameOfAll: tensors with one number that is another are not, wherever it is.
func TestSameOfAll(t *testing.T) {
	for _, c := range rightShapes {
		x, y := counted(c.s, c.size), counted(slices.Clone(c.s), c.size)
		if !tensor.Same(x, y) {
			t.Errorf("Same of %v: false", c.s)
		}
		for i := range y.Data {
			y.Data[i]++
			if tensor.Same(x, y) || tensor.Same(y, x) {
				t.Errorf("Same of %v: true, though the number %d is another", c.s, i)
			}
			y.Data[i]--
		}
	}
}

// anyTensors: ones that are Right, and ones that are not.
func anyTensors() []api.Tensor {
	l := []api.Tensor{{}, of([]int{2}, 1), of([]int{2}, 1, 2, 3), of(nil, 1, 2), of([]int{0}, 4), of([]int{2, 2}, numbers...)}
	for _, c := range rightShapes {
		l = append(l, counted(c.s, c.size))
	}
	for _, s := range wrongShapes {
		l = append(l, counted(s, 0), counted(s, 5))
	}
	return l
}

func TestCopy(t *testing.T) {
	for _, x := range anyTensors() {
		if got := tensor.Copy(x); !alike(got, x) {
			t.Errorf("Copy(%v): %v", x, got)
		}
	}
}

// roomy makes a list with spare room that is full of n.
func roomy[T any](n T, l ...T) []T {
	r := slices.Grow(slices.Clone(l), 6)
	for i := range r[len(l):cap(r)] {
		r[len(l):cap(r)][i] = n
	}
	return r
}

// roomyTensor is x with spare room that is full of n.
func roomyTensor(x api.Tensor, n int) api.Tensor {
	return api.Tensor{Shape: roomy(n, x.Shape...), Data: roomy(int64(n), x.Data...)}
}

// whole is x with all of its room.
func whole(x api.Tensor) api.Tensor {
	return api.Tensor{Shape: x.Shape[:cap(x.Shape)], Data: x.Data[:cap(x.Data)]}
}

// kept is a tensor by itself, all of its room included.
func kept(x api.Tensor) api.Tensor {
	x = whole(x)
	return api.Tensor{Shape: slices.Clone(x.Shape), Data: slices.Clone(x.Data)}
}

// scribble writes over all of a tensor's room.
func scribble(x api.Tensor) {
	x = whole(x)
	for i := range x.Shape {
		x.Shape[i] = -77
	}
	for i := range x.Data {
		x.Data[i] = -77
	}
}

// answers are all tensors that the package's calls make of x, its shape, and a place.
func answers(x api.Tensor, at []int) []api.Tensor {
	set, _ := tensor.Set(x, 99, at...)
	fill, _ := tensor.Fill(x.Shape, 5)
	iota, _ := tensor.Iota(x.Shape, 0)
	return []api.Tensor{set, fill, iota, tensor.Copy(x)}
}

// TestHandedInIsKept: no call changes a list, its spare room included, be the tensor Right or not (R2).
func TestHandedInIsKept(t *testing.T) {
	for _, l := range anyTensors() {
		x, y, at := roomyTensor(l, 7), roomyTensor(l, 8), roomy(9, make([]int, len(l.Shape))...)
		wantX, wantY, wantAt := kept(x), kept(y), slices.Clone(at[:cap(at)])
		tensor.Right(x)
		tensor.Get(x, at...)
		tensor.Same(x, y)
		answers(x, at)
		if !alike(whole(x), wantX) || !alike(whole(y), wantY) || !slices.Equal(at[:cap(at)], wantAt) {
			t.Errorf("%v: changed", l)
		}
	}
}

// TestAnswersAreNew: writing over an answer changes nothing that was handed in, and no other answer (R2).
func TestAnswersAreNew(t *testing.T) {
	for _, l := range anyTensors() {
		x, at := roomyTensor(l, 7), roomy(9, make([]int, len(l.Shape))...)
		wantX, wantAt := kept(x), slices.Clone(at[:cap(at)])
		all := append(answers(x, at), answers(x, at)...)
		var want []api.Tensor
		for _, a := range all {
			want = append(want, kept(a))
		}
		for i, a := range all {
			scribble(a)
			for j, b := range all[i+1:] {
				if !alike(whole(b), want[i+1+j]) {
					t.Errorf("%v: answers %d and %d share memory", l, i, i+1+j)
				}
			}
		}
		if !alike(whole(x), wantX) || !slices.Equal(at[:cap(at)], wantAt) {
			t.Errorf("%v: an answer shares its memory", l)
		}
	}
}

// TestNothingIsKept: writing over what was handed in changes no answer (R2).
func TestNothingIsKept(t *testing.T) {
	for _, l := range anyTensors() {
		x, at := roomyTensor(l, 7), roomy(9, make([]int, len(l.Shape))...)
		all, want := answers(x, at), answers(l, make([]int, len(l.Shape)))
		scribble(x)
		at = at[:cap(at)]
		for i := range at {
			at[i] = -77
		}
		for i, a := range all {
			if !alike(a, want[i]) {
				t.Errorf("%v: answer %d changes with what was handed in", l, i)
			}
		}
	}
}

// TestSpareRoom: what lies behind a list does not change what is answered (R5).
func TestSpareRoom(t *testing.T) {
	for _, n := range []int{0, 1, -1, 33, math.MaxInt} {
		x, at := roomyTensor(of([]int{2, 3}, 1, 2, 3, 4, 5, 6), n), roomy(n, 1, 1)
		if got, ok := tensor.Get(x, at...); got != 5 || !ok || !tensor.Right(x) {
			t.Errorf("spare room of %d: Get %d, %v, Right %v", n, got, ok, tensor.Right(x))
		}
		want := []api.Tensor{of([]int{2, 3}, 1, 2, 3, 4, 99, 6), of([]int{2, 3}, 5, 5, 5, 5, 5, 5), of([]int{2, 3}, 0, 0, 0, 1, 1, 1), x}
		for i, a := range answers(x, at) {
			if !alike(a, want[i]) {
				t.Errorf("spare room of %d: answer %d is %v", n, i, a)
			}
		}
		if !tensor.Same(x, roomyTensor(x, n+1)) || tensor.Same(x, whole(x)) {
			t.Errorf("spare room of %d changes what Same tells", n)
		}
	}
	short := api.Tensor{Shape: []int{2}, Data: roomy(int64(7), 1)}
	if tensor.Right(short) {
		t.Error("Right: spare room is taken for numbers")
	}
	refused(t, short, 1)
}

// TestNilAndEmpty: they mean the same (R4).
func TestNilAndEmpty(t *testing.T) {
	for _, s := range [][]int{nil, {}, roomy(9)} {
		for _, at := range [][]int{nil, {}, roomy(9)} {
			if n, ok := tensor.Get(of(s, 8), at...); n != 8 || !ok {
				t.Errorf("%#v, %#v: Get %d, %v", s, at, n, ok)
			}
			if got, ok := tensor.Set(of(s, 8), 9, at...); !alike(got, of(nil, 9)) || !ok {
				t.Errorf("%#v, %#v: Set %v, %v", s, at, got, ok)
			}
		}
		if got, why := tensor.Fill(s, 8); !alike(got, of(nil, 8)) || why != api.OK {
			t.Errorf("%#v: Fill %v, %d", s, got, int(why))
		}
		for _, data := range [][]int64{nil, {}, roomy(int64(9))} {
			x := of(s, data...)
			if tensor.Right(x) || !tensor.Right(of([]int{0}, data...)) || !tensor.Same(x, api.Tensor{}) || !tensor.Same(tensor.Copy(x), x) {
				t.Errorf("%#v: not as nothing", x)
			}
		}
	}
}

// TestLongLists: calls end, of long lists too (R1).
func TestLongLists(t *testing.T) {
	data := make([]int64, 1<<20)
	for _, n := range []int{0, 1, -1, math.MaxInt, math.MinInt} {
		s := slices.Repeat([]int{n}, 1<<20)
		x := of(s, data...)
		if tensor.Right(x) || tensor.Right(of([]int{2, 3}, data...)) || tensor.Right(of(s, 1)) {
			t.Errorf("Right: a long list of %d passes", n)
		}
		_, get := tensor.Get(x, s...)
		_, set := tensor.Set(of([]int{2}, 1, 2), 1, s...)
		_, fill := tensor.Fill(s, 1)
		_, iota := tensor.Iota(s, 0)
		if get || set || fill != api.ErrShape || iota != api.ErrShape {
			t.Errorf("a long list of %d passes: %v, %v, %d, %d", n, get, set, int(fill), int(iota))
		}
		c := tensor.Copy(x)
		if !tensor.Same(c, x) {
			t.Errorf("Copy: not the same of a long list of %d", n)
		}
		c.Data[len(c.Data)-1]++
		if tensor.Same(c, x) {
			t.Errorf("Same: long lists of %d but for the last number are", n)
		}
	}
}
