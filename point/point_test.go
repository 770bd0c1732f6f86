// Tests of P4.1, and of the rules R1 to R5 for the calls of point.
package point_test

import (
	"math"
	"math/big"
	"slices"
	"testing"

	"parquetry/api"
	"parquetry/point"
)

const (
	great = math.MaxInt64
	least = math.MinInt64
)

// half is a length that, taken four times, goes round to 0.
const half = math.MaxInt/2 + 1

var (
	ones = []int{api.Neg, api.Not}
	twos = []int{api.Add, api.Sub, api.Mul, api.Min, api.Max, api.Less}
)

// otherOps: the ops that are neither of one nor of two, and numbers that are no ops, such as would be one if they were cut short.
var otherOps = []int{
	0, api.Param, api.Fill, api.Iota, api.Select, api.Turn, api.Spread, api.Slice, api.Pad, api.Join, api.Fold, api.Dot, api.Window,
	21, 99, -1, -api.Neg, -api.Add, 256 + api.Neg, 256 + api.Add, 1<<32 + api.Not, 1<<32 + api.Less, math.MaxInt, math.MinInt, math.MinInt + api.Add,
}

// numbers at the ends of their range, about 0, about where products go round, and some of which the lower half is 0.
var numbers = []int64{0, 1, -1, 2, -2, 3, -5, 7, 1 << 31, -1 << 31, 1 << 32, -1 << 32, 3037000499, 3037000500, -3037000500, 1 << 62, -1 << 62, great - 1, great, least + 1, least}

// rightShapes: each with how many numbers a tensor of it has.
var rightShapes = []struct {
	s    []int
	size int
}{
	{nil, 1},
	{[]int{}, 1},
	{[]int{0}, 0},
	{[]int{1}, 1},
	{[]int{5}, 5},
	{[]int{api.MaxDim}, 32},
	{[]int{2, 3}, 6},
	{[]int{3, 2}, 6},
	{[]int{0, 3}, 0},
	{[]int{3, 0}, 0},
	{[]int{1, 32}, 32},
	{[]int{2, 3, 4}, 24},
	{[]int{32, 32, 4}, api.MaxElems},
	{[]int{1, 1, 1, 1}, 1},
	{[]int{2, 3, 4, 5}, 120},
	{[]int{8, 8, 8, 8}, api.MaxElems},
	{[]int{32, 32, 32, 0}, 0},
	{[]int{0, 0, 0, 0}, 0},
}

func of(s []int, l ...int64) api.Tensor { return api.Tensor{Shape: s, Data: l} }

// filled makes a tensor of s with size numbers; another seed makes other ones, some of them 0.
func filled(s []int, size, seed int) api.Tensor {
	t := api.Tensor{Shape: slices.Clone(s)}
	for i := range size {
		n := numbers[(i*seed+i/7+seed)%len(numbers)]
		if i%3 == seed%3 {
			n = int64(i*seed - size)
		}
		t.Data = append(t.Data, n)
	}
	return t
}

// wrongTensors: shapes that may not be, with as many numbers as they ask or none, and shapes that may be, with too few numbers or too many.
func wrongTensors() []api.Tensor {
	return []api.Tensor{
		{},
		of(nil, 1, 2),
		of([]int{2}),
		of([]int{2}, 1),
		of([]int{2}, 1, 2, 3),
		of([]int{0}, 1),
		of([]int{2, 2}, 1, 2, 3),
		of([]int{2, 2}, 1, 2, 3, 4, 5),
		filled([]int{32, 32, 4}, api.MaxElems-1, 3),
		filled([]int{32, 32, 4}, api.MaxElems+1, 3),
		of([]int{1, 1, 1, 1, 1}, 1),
		of([]int{0, 0, 0, 0, 0}),
		filled([]int{api.MaxDim + 1}, 33, 3),
		filled([]int{1, 33}, 33, 3),
		of([]int{0, 33}),
		filled([]int{8, 27, 19}, 4104, 3),
		filled([]int{32, 32, 5}, 5120, 3),
		of([]int{-1}),
		of([]int{-1}, 1),
		of([]int{-1, -1}, 1),
		of([]int{-2, -3}, 1, 2, 3, 4, 5, 6),
		of([]int{0, -1}),
		of([]int{math.MaxInt}, 1),
		of([]int{math.MinInt}),
		of([]int{half, 4}),
		of([]int{half, 2, 2, 1}),
	}
}

// unlike: tensors that are Right, each of another shape, many with as many numbers.
func unlike() []api.Tensor {
	return []api.Tensor{
		of(nil, 1), of([]int{1}, 1), of([]int{1, 1}, 1), of([]int{1, 1, 1, 1}, 1),
		of([]int{0}), of([]int{0, 0}), of([]int{0, 2}), of([]int{2, 0}), of([]int{0, 3}),
		of([]int{6}, 1, 2, 3, 4, 5, 6), of([]int{2, 3}, 1, 2, 3, 4, 5, 6), of([]int{3, 2}, 1, 2, 3, 4, 5, 6), of([]int{1, 6}, 1, 2, 3, 4, 5, 6), of([]int{2, 3, 1}, 1, 2, 3, 4, 5, 6),
		of([]int{5}, 1, 2, 3, 4, 5), of([]int{2}, 1, 2),
		filled([]int{32, 32, 4}, api.MaxElems, 3), filled([]int{4, 32, 32}, api.MaxElems, 3),
	}
}

// alike holds shapes and numbers against each other, asking nothing of the program.
func alike(a, b api.Tensor) bool {
	return slices.Equal(a.Shape, b.Shape) && slices.Equal(a.Data, b.Data)
}

func nothing(t api.Tensor) bool { return len(t.Shape) == 0 && len(t.Data) == 0 }

// round is the whole number n as 64 bits that go round.
func round(n *big.Int) int64 {
	low := new(big.Int).And(n, new(big.Int).SetUint64(math.MaxUint64))
	return int64(low.Uint64())
}

func bit(yes bool) int64 {
	if yes {
		return 1
	}
	return 0
}

// reckoned tells what op makes of two numbers, by numbers that do not go round.
func reckoned(op int, a, b int64) int64 {
	x, y, z := big.NewInt(a), big.NewInt(b), new(big.Int)
	switch op {
	case api.Neg:
		return round(z.Neg(x))
	case api.Not:
		return bit(x.Sign() == 0)
	case api.Add:
		return round(z.Add(x, y))
	case api.Sub:
		return round(z.Sub(x, y))
	case api.Mul:
		return round(z.Mul(x, y))
	case api.Min:
		return round([]*big.Int{x, x, y}[x.Cmp(y)+1])
	case api.Max:
		return round([]*big.Int{y, y, x}[x.Cmp(y)+1])
	case api.Less:
		return bit(x.Cmp(y) < 0)
	}
	return 0
}

func TestStep(t *testing.T) {
	for _, c := range []struct {
		op         int
		a, b, want int64
	}{
		{api.Neg, 5, 0, -5},
		{api.Neg, -5, 0, 5},
		{api.Neg, 0, 9, 0},
		{api.Neg, great, 0, least + 1},
		{api.Neg, least, 0, least},
		{api.Not, 0, 0, 1},
		{api.Not, 1, 0, 0},
		{api.Not, -1, 0, 0},
		{api.Not, 1 << 32, 0, 0},
		{api.Not, least, 0, 0},
		{api.Add, 2, 3, 5},
		{api.Add, 2, -3, -1},
		{api.Add, great, 1, least},
		{api.Add, great, great, -2},
		{api.Add, least, -1, great},
		{api.Add, least, least, 0},
		{api.Sub, 2, 3, -1},
		{api.Sub, 3, 2, 1},
		{api.Sub, 0, least, least},
		{api.Sub, least, 1, great},
		{api.Sub, great, -1, least},
		{api.Sub, great, least, -1},
		{api.Mul, 3, -5, -15},
		{api.Mul, -3, -5, 15},
		{api.Mul, 0, least, 0},
		{api.Mul, least, -1, least},
		{api.Mul, great, great, 1},
		{api.Mul, great, 2, -2},
		{api.Mul, 1 << 32, 1 << 32, 0},
		{api.Mul, 1 << 62, 2, least},
		{api.Mul, 3037000500, 3037000500, -9223372036709301616},
		{api.Min, 2, 3, 2},
		{api.Min, 3, 2, 2},
		{api.Min, -2, -3, -3},
		{api.Min, great, least, least},
		{api.Min, 4, 4, 4},
		{api.Max, 2, 3, 3},
		{api.Max, 3, 2, 3},
		{api.Max, -2, -3, -2},
		{api.Max, great, least, great},
		{api.Max, 4, 4, 4},
		{api.Less, -1, 0, 1},
		{api.Less, 0, -1, 0},
		{api.Less, 2, 2, 0},
		{api.Less, 2, 3, 1},
		{api.Less, 3, 2, 0},
		{api.Less, least, great, 1},
		{api.Less, great, least, 0},
		{api.Less, least, 1, 1},
		{api.Less, 1, least, 0},
		{api.Less, 0, 1 << 32, 1},
	} {
		if got := point.Step(c.op, c.a, c.b); got != c.want {
			t.Errorf("Step(%d, %d, %d): %d, not %d", c.op, c.a, c.b, got, c.want)
		}
	}
}

// TestStepOfAll asks each op of all pairs of numbers.
func TestStepOfAll(t *testing.T) {
	for _, op := range slices.Concat(ones, twos, otherOps) {
		for _, a := range numbers {
			for _, b := range numbers {
				if got, want := point.Step(op, a, b), reckoned(op, a, b); got != want {
					t.Errorf("Step(%d, %d, %d): %d, not %d", op, a, b, got, want)
				}
			}
		}
	}
}

func TestStepOfOtherOps(t *testing.T) {
	for _, op := range otherOps {
		if got := point.Step(op, 5, 6); got != 0 {
			t.Errorf("Step(%d, 5, 6): %d", op, got)
		}
	}
}

func TestOne(t *testing.T) {
	for _, c := range []struct {
		op      int
		a, want api.Tensor
	}{
		{api.Neg, of(nil, 5), of(nil, -5)},
		{api.Neg, of(nil, least), of(nil, least)},
		{api.Neg, of([]int{3}, 0, great, least), of([]int{3}, 0, least+1, least)},
		{api.Neg, of([]int{2, 2}, 1, -2, 0, 4), of([]int{2, 2}, -1, 2, 0, -4)},
		{api.Neg, of([]int{0}), of([]int{0})},
		{api.Neg, of([]int{2, 0, 3}), of([]int{2, 0, 3})},
		{api.Not, of(nil, 0), of(nil, 1)},
		{api.Not, of(nil, 1), of(nil, 0)},
		{api.Not, of([]int{5}, 0, 1, -1, 1<<32, least), of([]int{5}, 1, 0, 0, 0, 0)},
		{api.Not, of([]int{1, 2, 1, 2}, 0, 7, 0, 0), of([]int{1, 2, 1, 2}, 1, 0, 1, 1)},
		{api.Not, of([]int{0, 4}), of([]int{0, 4})},
	} {
		if got, why := point.One(c.op, c.a); why != api.OK || !alike(got, c.want) {
			t.Errorf("One(%d, %v): %v, %d, not %v", c.op, c.a, got, int(why), c.want)
		}
	}
}

func TestTwo(t *testing.T) {
	s := []int{2, 3}
	a, b := of(s, 1, -2, 0, 4, great, least), of(s, 5, -2, 7, -8, 1, 1)
	for _, c := range []struct {
		op         int
		a, b, want api.Tensor
	}{
		{api.Add, a, b, of(s, 6, -4, 7, -4, least, least+1)},
		{api.Sub, a, b, of(s, -4, 0, -7, 12, great-1, great)},
		{api.Sub, b, a, of(s, 4, 0, 7, -12, least+2, least+1)},
		{api.Mul, a, b, of(s, 5, 4, 0, -32, great, least)},
		{api.Min, a, b, of(s, 1, -2, 0, -8, 1, least)},
		{api.Max, a, b, of(s, 5, -2, 7, 4, great, 1)},
		{api.Less, a, b, of(s, 1, 0, 1, 0, 0, 1)},
		{api.Less, b, a, of(s, 0, 0, 0, 1, 1, 0)},
		{api.Add, of(nil, great), of(nil, 1), of(nil, least)},
		{api.Mul, of(nil, 1<<32), of(nil, 1<<32), of(nil, 0)},
		{api.Less, of(nil, 2), of(nil, 2), of(nil, 0)},
		{api.Sub, of([]int{0}), of([]int{0}), of([]int{0})},
		{api.Max, of([]int{3, 0}), of([]int{3, 0}), of([]int{3, 0})},
	} {
		if got, why := point.Two(c.op, c.a, c.b); why != api.OK || !alike(got, c.want) {
			t.Errorf("Two(%d, %v, %v): %v, %d, not %v", c.op, c.a, c.b, got, int(why), c.want)
		}
	}
}

func TestPick(t *testing.T) {
	s := []int{2, 3}
	a, b := of(s, 1, 2, 3, 4, 5, 6), of(s, -1, -2, -3, -4, -5, -6)
	for _, c := range []struct{ c, a, b, want api.Tensor }{
		{of(s, 1, 0, 0, 1, 1, 0), a, b, of(s, 1, -2, -3, 4, 5, -6)},
		{of(s, 0, 1, 1, 0, 0, 1), a, b, of(s, -1, 2, 3, -4, -5, 6)},
		{of(s, 0, 0, 0, 0, 0, 0), a, b, b},
		{of(s, 1, 1, 1, 1, 1, 1), a, b, a},
		{of(s, 2, -1, great, least, 1<<32, -1<<32), a, b, a},
		{of(s, 1, 0, 0, 1, 1, 0), b, a, of(s, -1, 2, 3, -4, -5, 6)},
		{of(nil, 0), of(nil, 5), of(nil, 6), of(nil, 6)},
		{of(nil, 1), of(nil, 5), of(nil, 6), of(nil, 5)},
		{of(nil, -1), of(nil, great), of(nil, least), of(nil, great)},
		{of(nil, 0), of(nil, great), of(nil, least), of(nil, least)},
		{of([]int{0}), of([]int{0}), of([]int{0}), of([]int{0})},
		{of([]int{0, 4}), of([]int{0, 4}), of([]int{0, 4}), of([]int{0, 4})},
	} {
		if got, why := point.Pick(c.c, c.a, c.b); why != api.OK || !alike(got, c.want) {
			t.Errorf("Pick(%v, %v, %v): %v, %d, not %v", c.c, c.a, c.b, got, int(why), c.want)
		}
	}
}

// TestEachPlace asks each number that each call makes of tensors of all shapes.
func TestEachPlace(t *testing.T) {
	for _, c := range rightShapes {
		x, a, b := filled(c.s, c.size, 1), filled(c.s, c.size, 4), filled(c.s, c.size, 11)
		for _, op := range ones {
			want := api.Tensor{Shape: c.s}
			for _, n := range a.Data {
				want.Data = append(want.Data, reckoned(op, n, 0))
			}
			if got, why := point.One(op, a); why != api.OK || !alike(got, want) {
				t.Errorf("One(%d) of %v: %v, %d", op, c.s, got, int(why))
			}
		}
		for _, op := range twos {
			want := api.Tensor{Shape: c.s}
			for i, n := range a.Data {
				want.Data = append(want.Data, reckoned(op, n, b.Data[i]))
			}
			if got, why := point.Two(op, a, b); why != api.OK || !alike(got, want) {
				t.Errorf("Two(%d) of %v: %v, %d", op, c.s, got, int(why))
			}
		}
		want := api.Tensor{Shape: c.s}
		for i, n := range x.Data {
			if n != 0 {
				want.Data = append(want.Data, a.Data[i])
			} else {
				want.Data = append(want.Data, b.Data[i])
			}
		}
		if got, why := point.Pick(x, a, b); why != api.OK || !alike(got, want) {
			t.Errorf("Pick of %v: %v, %d", c.s, got, int(why))
		}
	}
}

// TestOneTensorTwice: a tensor may stand in several places of one call.
func TestOneTensorTwice(t *testing.T) {
	x := of([]int{4}, 3, 0, -3, least)
	for op, want := range map[int]api.Tensor{
		api.Add:  of([]int{4}, 6, 0, -6, 0),
		api.Sub:  of([]int{4}, 0, 0, 0, 0),
		api.Mul:  of([]int{4}, 9, 0, 9, 0),
		api.Min:  x,
		api.Max:  x,
		api.Less: of([]int{4}, 0, 0, 0, 0),
	} {
		if got, why := point.Two(op, x, x); why != api.OK || !alike(got, want) {
			t.Errorf("Two(%d) of one tensor: %v, %d", op, got, int(why))
		}
	}
	y := of([]int{4}, 5, 6, 7, 8)
	for i, c := range []struct{ c, a, b, want api.Tensor }{
		{x, x, x, x},
		{x, x, y, of([]int{4}, 3, 6, -3, least)},
		{x, y, x, of([]int{4}, 5, 0, 7, 8)},
		{x, y, y, y},
	} {
		if got, why := point.Pick(c.c, c.a, c.b); why != api.OK || !alike(got, c.want) {
			t.Errorf("Pick of one tensor, case %d: %v, %d", i, got, int(why))
		}
	}
}

// refused tells whether a call answers that refusal, and nothing beside it.
func refused(t *testing.T, name string, got api.Tensor, why, want api.Errno) {
	t.Helper()
	if why != want || !nothing(got) {
		t.Errorf("%s: %v, %d, not %d", name, got, int(why), int(want))
	}
}

// TestOtherOps: ErrArg, be the tensors Right and of one shape or not: it is named first (R3).
func TestOtherOps(t *testing.T) {
	right := unlike()
	tensors := slices.Concat(right, wrongTensors())
	for _, x := range tensors {
		for _, op := range slices.Concat(twos, otherOps) {
			got, why := point.One(op, x)
			refused(t, "One of another op", got, why, api.ErrArg)
		}
		for _, op := range slices.Concat(ones, otherOps) {
			for _, y := range []api.Tensor{x, right[0], right[9], {}} {
				got, why := point.Two(op, x, y)
				refused(t, "Two of another op", got, why, api.ErrArg)
				got, why = point.Two(op, y, x)
				refused(t, "Two of another op", got, why, api.ErrArg)
			}
		}
	}
}

// TestWrongTensors: ErrShape, wherever the one that is not Right stands, beside ones of its shape or not.
func TestWrongTensors(t *testing.T) {
	for _, x := range wrongTensors() {
		for _, op := range ones {
			got, why := point.One(op, x)
			refused(t, "One of a wrong tensor", got, why, api.ErrShape)
		}
		beside := []api.Tensor{x, of(nil, 1), of([]int{2}, 1, 2), of([]int{2, 2}, 1, 2, 3, 4), of([]int{0}), filled([]int{32, 32, 4}, api.MaxElems, 3)}
		for _, y := range beside {
			for _, op := range twos {
				got, why := point.Two(op, x, y)
				refused(t, "Two of a wrong tensor", got, why, api.ErrShape)
				got, why = point.Two(op, y, x)
				refused(t, "Two of a wrong tensor", got, why, api.ErrShape)
			}
			for _, l := range [][3]api.Tensor{{x, y, y}, {y, x, y}, {y, y, x}, {x, x, y}, {x, y, x}, {y, x, x}} {
				got, why := point.Pick(l[0], l[1], l[2])
				refused(t, "Pick of a wrong tensor", got, why, api.ErrShape)
			}
		}
	}
}

// TestUnlikeShapes: ErrShape, wherever the other shape stands, though there be as many numbers.
func TestUnlikeShapes(t *testing.T) {
	for i, x := range unlike() {
		for j, y := range unlike() {
			if i == j {
				continue
			}
			for _, op := range twos {
				got, why := point.Two(op, x, y)
				refused(t, "Two of unlike shapes", got, why, api.ErrShape)
			}
			for _, l := range [][3]api.Tensor{{x, y, y}, {y, x, y}, {y, y, x}} {
				got, why := point.Pick(l[0], l[1], l[2])
				refused(t, "Pick of unlike shapes", got, why, api.ErrShape)
			}
		}
	}
}

// roomy makes a list with spare room that is full of n.
func roomy[T any](n T, l ...T) []T {
	r := slices.Grow(slices.Clone(l), 6)
	for i := range r[len(l):cap(r)] {
		r[len(l):cap(r)][i] = n
	}
	return r
}

// roomyTensor is x with spare room that is full of n.
func roomyTensor(x api.Tensor, n int) api.Tensor {
	return api.Tensor{Shape: roomy(n, x.Shape...), Data: roomy(int64(n), x.Data...)}
}

// whole is x with all of its room.
func whole(x api.Tensor) api.Tensor {
	return api.Tensor{Shape: x.Shape[:cap(x.Shape)], Data: x.Data[:cap(x.Data)]}
}

// kept is a tensor by itself, all of its room included.
func kept(x api.Tensor) api.Tensor {
	x = whole(x)
	return api.Tensor{Shape: slices.Clone(x.Shape), Data: slices.Clone(x.Data)}
}

// scribble writes over all of a tensor's room.
func scribble(x api.Tensor) {
	x = whole(x)
	for i := range x.Shape {
		x.Shape[i] = -77
	}
	for i := range x.Data {
		x.Data[i] = -77
	}
}

// answers are all tensors that the package's calls make of three, in their order.
func answers(c, a, b api.Tensor) []api.Tensor {
	var l []api.Tensor
	for _, op := range ones {
		x, _ := point.One(op, a)
		l = append(l, x)
	}
	for _, op := range twos {
		x, _ := point.Two(op, a, b)
		l = append(l, x)
	}
	x, _ := point.Pick(c, a, b)
	return append(l, x)
}

// triples: tensors to be asked together, ones that are refused included.
func triples() [][3]api.Tensor {
	var l [][3]api.Tensor
	for _, c := range rightShapes {
		l = append(l, [3]api.Tensor{filled(c.s, c.size, 1), filled(c.s, c.size, 4), filled(c.s, c.size, 11)})
	}
	s := []int{3}
	// Pick takes all from one of its two here.
	l = append(l, [3]api.Tensor{of(s, 1, 2, 3), of(s, 4, 5, 6), of(s, 7, 8, 9)}, [3]api.Tensor{of(s, 0, 0, 0), of(s, 4, 5, 6), of(s, 7, 8, 9)})
	for _, x := range wrongTensors() {
		l = append(l, [3]api.Tensor{x, x, x}, [3]api.Tensor{x, of(nil, 1), of([]int{2}, 1, 2)})
	}
	return l
}

// handedIn is a triple with spare room, and what all of its room holds.
func handedIn(l [3]api.Tensor) (given, want [3]api.Tensor) {
	for i, x := range l {
		given[i] = roomyTensor(x, 7+i)
		want[i] = kept(given[i])
	}
	return given, want
}

// TestHandedInIsKept: no call changes a list, its spare room included, be it refused or not (R2, R3).
func TestHandedInIsKept(t *testing.T) {
	for _, l := range triples() {
		given, want := handedIn(l)
		answers(given[0], given[1], given[2])
		answers(given[2], given[1], given[1])
		point.One(api.Add, given[1])
		point.Two(api.Neg, given[1], given[2])
		for i, x := range given {
			if !alike(whole(x), want[i]) {
				t.Errorf("%v: changed", l[i])
			}
		}
	}
}

// TestAnswersAreNew: writing over an answer changes nothing that was handed in, and no other answer (R2).
func TestAnswersAreNew(t *testing.T) {
	for _, l := range triples() {
		given, want := handedIn(l)
		all := append(answers(given[0], given[1], given[2]), answers(given[0], given[1], given[2])...)
		var made []api.Tensor
		for _, a := range all {
			made = append(made, kept(a))
		}
		for i, a := range all {
			scribble(a)
			for j, b := range all[i+1:] {
				if !alike(whole(b), made[i+1+j]) {
					t.Errorf("%v: answers %d and %d share memory", l, i, i+1+j)
				}
			}
		}
		for i, x := range given {
			if !alike(whole(x), want[i]) {
				t.Errorf("%v: an answer shares its memory", l[i])
			}
		}
	}
}

// TestNothingIsKept: writing over what was handed in changes no answer (R2).
func TestNothingIsKept(t *testing.T) {
	for _, l := range triples() {
		c, a, b := roomyTensor(l[0], 7), roomyTensor(l[1], 8), roomyTensor(l[2], 9)
		all, want := answers(c, a, b), answers(l[0], l[1], l[2])
		for _, x := range []api.Tensor{c, a, b} {
			scribble(x)
		}
		for i, got := range all {
			if !alike(got, want[i]) {
				t.Errorf("%v: answer %d changes with what was handed in", l, i)
			}
		}
	}
}

// TestSharedMemory: what is handed in may share memory with one another.
func TestSharedMemory(t *testing.T) {
	s, l := []int{3}, []int64{0, 1, 2, 3, 4}
	c, a, b := of(s, l[:3]...), of(s, l[1:4]...), of(s, l[2:]...)
	if got, why := point.Two(api.Add, a, b); why != api.OK || !alike(got, of(s, 3, 5, 7)) {
		t.Errorf("Two: %v, %d", got, int(why))
	}
	if got, why := point.Pick(c, a, b); why != api.OK || !alike(got, of(s, 2, 2, 3)) {
		t.Errorf("Pick: %v, %d", got, int(why))
	}
	if got, why := point.One(api.Neg, a); why != api.OK || !alike(got, of(s, -1, -2, -3)) {
		t.Errorf("One: %v, %d", got, int(why))
	}
	if !slices.Equal(l, []int64{0, 1, 2, 3, 4}) || !slices.Equal(s, []int{3}) {
		t.Errorf("changed: %v, %v", l, s)
	}
}

// TestSpareRoom: what lies behind a list does not change what is answered (R5).
func TestSpareRoom(t *testing.T) {
	s := []int{2, 2}
	c, a, b := of(s, 0, 1, 0, -1), of(s, 1, -2, 0, 4), of(s, 5, -2, 7, -8)
	want := answers(c, a, b)
	for _, n := range []int{0, 1, -1, 33, math.MaxInt} {
		for i, got := range answers(roomyTensor(c, n), roomyTensor(a, n+1), roomyTensor(b, n-1)) {
			if !alike(got, want[i]) {
				t.Errorf("spare room of %d: answer %d is %v, not %v", n, i, got, want[i])
			}
		}
		short := api.Tensor{Shape: []int{2}, Data: roomy(int64(n), 1)}
		long := api.Tensor{Shape: roomy(2), Data: []int64{1, 2}}
		for _, x := range []api.Tensor{short, long} {
			got, why := point.One(api.Neg, x)
			refused(t, "One: spare room", got, why, api.ErrShape)
			got, why = point.Two(api.Add, x, of([]int{2}, 1, 2))
			refused(t, "Two: spare room", got, why, api.ErrShape)
			got, why = point.Pick(of([]int{2}, 1, 2), of([]int{2}, 1, 2), x)
			refused(t, "Pick: spare room", got, why, api.ErrShape)
		}
	}
}

// TestNilAndEmpty: they mean the same (R4).
func TestNilAndEmpty(t *testing.T) {
	for _, s := range [][]int{nil, {}, roomy(9)} {
		for _, z := range [][]int{nil, {}, roomy(9)} {
			if got, why := point.Two(api.Sub, of(s, 8), of(z, 3)); why != api.OK || !alike(got, of(nil, 5)) {
				t.Errorf("%#v, %#v: Two %v, %d", s, z, got, int(why))
			}
			if got, why := point.Pick(of(z, 0), of(s, 8), of(z, 3)); why != api.OK || !alike(got, of(nil, 3)) {
				t.Errorf("%#v, %#v: Pick %v, %d", s, z, got, int(why))
			}
		}
		if got, why := point.One(api.Not, of(s, 0)); why != api.OK || !alike(got, of(nil, 1)) {
			t.Errorf("%#v: One %v, %d", s, got, int(why))
		}
	}
	for _, data := range [][]int64{nil, {}, roomy(int64(9))} {
		x, y := of([]int{0}, data...), of([]int{0})
		for i, got := range answers(x, y, x) {
			if !alike(got, y) {
				t.Errorf("%#v: answer %d is %v", data, i, got)
			}
		}
		got, why := point.One(api.Neg, of(nil, data...))
		refused(t, "One of nothing", got, why, api.ErrShape)
	}
}

// TestLongLists: calls end, of long lists too (R1).
func TestLongLists(t *testing.T) {
	data := make([]int64, 1<<20)
	for _, n := range []int{0, 1, -1, math.MaxInt, math.MinInt} {
		s := slices.Repeat([]int{n}, 1<<20)
		for _, x := range []api.Tensor{of(s, data...), of(s, 1), of([]int{2}, data...)} {
			got, why := point.One(api.Neg, x)
			refused(t, "One of a long list", got, why, api.ErrShape)
			got, why = point.Two(api.Add, x, x)
			refused(t, "Two of long lists", got, why, api.ErrShape)
			got, why = point.Pick(x, x, x)
			refused(t, "Pick of long lists", got, why, api.ErrShape)
		}
	}
}
