// Tests of P6.1, and of the rules R1 to R5 for the calls of fold.
package fold_test

import (
	"math"
	"math/big"
	"slices"
	"testing"

	"parquetry/api"
	"parquetry/fold"
)

const (
	great = math.MaxInt64
	least = math.MinInt64
)

// half is a length that, taken four times, goes round to 0.
const half = math.MaxInt/2 + 1

// far: numbers that are no axis and no way to fold, such as would be one if they were cut short or went round.
var far = []int{-1, -2, -3, -4, -32, 5, 6, 33, 255, 256, 257, -255, 1 << 16, 1<<16 + 2, 1 << 32, 1<<32 + 1, 1<<32 + 4, -1 << 32, half, half + 3, -half, math.MaxInt - 1, math.MaxInt, math.MinInt, math.MinInt + 1}

var ways = []int{api.Sum, api.Prod, api.Least, api.Most}

// otherWays: numbers that are no way to fold, ops among them.
var otherWays = append([]int{0, api.Add, api.Mul, api.Min, api.Max, api.Less, api.Fold, -api.Sum, -api.Most, 256 + api.Sum, 1<<32 + api.Most}, far...)

// numbers at the ends of their range, about 0, about where products go round, and some of which the lower half is 0.
var numbers = []int64{0, 1, -1, 2, -2, 3, -5, 7, 1 << 31, -1 << 31, 1 << 32, -1 << 32, 3037000499, 3037000500, -3037000500, 1 << 62, -1 << 62, great - 1, great, least + 1, least}

func of(s []int, l ...int64) api.Tensor { return api.Tensor{Shape: s, Data: l} }

// product multiplies, asking nothing of the program.
func product(s []int) int {
	n := 1
	for _, length := range s {
		n *= length
	}
	return n
}

// filled makes a tensor of s, its numbers told by their order.
func filled(tell func(i int) int64, s ...int) api.Tensor {
	t := api.Tensor{Shape: slices.Clone(s)}
	for i := range product(s) {
		t.Data = append(t.Data, tell(i))
	}
	return t
}

// mixed makes a tensor of s of small numbers and of those at the ends.
func mixed(s ...int) api.Tensor {
	return filled(func(i int) int64 {
		if i%3 == 1 {
			return int64(i*5 - 40)
		}
		return numbers[(i*4+i/7+3)%len(numbers)]
	}, s...)
}

// odd makes a tensor of s of odd numbers alone, of which no product goes round to 0.
func odd(s ...int) api.Tensor {
	return filled(func(i int) int64 { return int64(i)*0x5851f42d4c957f2c + int64(i%5)*2 - 3 }, s...)
}

// counted makes a tensor of s of which no number is like another.
func counted(s ...int) api.Tensor {
	return filled(func(i int) int64 { return int64(1001 + i) }, s...)
}

func alike(a, b api.Tensor) bool {
	return slices.Equal(a.Shape, b.Shape) && slices.Equal(a.Data, b.Data)
}

func nothing(t api.Tensor) bool { return len(t.Shape) == 0 && len(t.Data) == 0 }

// answered tells whether a call answers that tensor.
func answered(t *testing.T, got api.Tensor, why api.Errno, want api.Tensor, about ...any) {
	t.Helper()
	if why != api.OK || !alike(got, want) {
		t.Errorf("Do %v: %v, %d, not %v", about, got, int(why), want)
	}
}

// refused tells whether a call answers that refusal, and nothing beside it.
func refused(t *testing.T, got api.Tensor, why, want api.Errno, about ...any) {
	t.Helper()
	if why != want || !nothing(got) {
		t.Errorf("Do %v: %v, %d, not %d", about, got, int(why), int(want))
	}
}

// none is what the chapter says of no numbers.
func none(how int) int64 {
	return map[int]int64{api.Sum: 0, api.Prod: 1, api.Least: great, api.Most: least}[how]
}

// round is the whole number n as 64 bits that go round.
func round(n *big.Int) *big.Int {
	low := new(big.Int).And(n, new(big.Int).SetUint64(math.MaxUint64))
	return n.SetInt64(int64(low.Uint64()))
}

// folded tells what a list of numbers folds to, by numbers that do not go round.
func folded(how int, l []int64) int64 {
	if len(l) == 0 {
		return none(how)
	}
	n := big.NewInt(none(how))
	switch how {
	case api.Sum:
		for _, k := range l {
			n.Add(n, big.NewInt(k))
		}
	case api.Prod:
		for _, k := range l {
			round(n.Mul(n, big.NewInt(k)))
		}
	case api.Least:
		return slices.Min(l)
	case api.Most:
		return slices.Max(l)
	}
	return round(n).Int64()
}

// eachPlace hands over each place of s, the last way first, in one list that is filled anew each time.
func eachPlace(s []int, look func(at []int)) {
	at := make([]int, len(s))
	for range product(s) {
		look(at)
		for axis := len(s) - 1; axis >= 0; axis-- {
			at[axis]++
			if at[axis] < s[axis] {
				break
			}
			at[axis] = 0
		}
	}
}

// stay are the numbers of l, one for each axis, but those of axes.
func stay(l, axes []int) []int {
	var left []int
	for axis, n := range l {
		if !slices.Contains(axes, axis) {
			left = append(left, n)
		}
	}
	return left
}

// foldedAway is what x folded along axes is, each number reckoned from a list of its own.
func foldedAway(how int, x api.Tensor, axes []int) api.Tensor {
	want := api.Tensor{Shape: stay(x.Shape, axes)}
	lists := make([][]int64, product(want.Shape))
	i := 0
	eachPlace(x.Shape, func(at []int) {
		k := 0
		for axis, place := range stay(at, axes) {
			k = k*want.Shape[axis] + place
		}
		lists[k] = append(lists[k], x.Data[i])
		i++
	})
	for _, l := range lists {
		want.Data = append(want.Data, folded(how, l))
	}
	return want
}

// eachSet hands over each rising list of axes of that rank, no axes and all of them among them, a new one each time.
func eachSet(rank int, look func(axes []int)) {
	for bits := range 1 << rank {
		var axes []int
		for axis := range rank {
			if bits>>axis&1 == 1 {
				axes = append(axes, axis)
			}
		}
		look(axes)
	}
}

// eachList hands over each list of n of the numbers, a new one each time.
func eachList(n int, numbers []int, look func(l []int)) {
	l := make([]int, n)
	var fill func(i int)
	fill = func(i int) {
		if i == n {
			look(slices.Clone(l))
			return
		}
		for _, k := range numbers {
			l[i] = k
			fill(i + 1)
		}
	}
	fill(0)
}

// upTo is the list 0, 1 and on, n numbers.
func upTo(n int) []int {
	l := make([]int, n)
	for i := range l {
		l[i] = i
	}
	return l
}

// someShapes: ones of each rank, lengths of 0 and 1 among them.
var someShapes = [][]int{
	nil, {0}, {1}, {5}, {32},
	{2, 3}, {3, 2}, {1, 4}, {0, 3}, {3, 0}, {0, 0}, {3, 3}, {1, 1}, {32, 32},
	{2, 3, 4}, {4, 1, 2}, {2, 0, 3}, {2, 2, 2}, {32, 4, 32}, {0, 32, 4}, {32, 32, 0},
	{2, 3, 4, 5}, {3, 1, 2, 2}, {2, 3, 0, 4}, {1, 1, 1, 1}, {8, 8, 8, 8}, {0, 0, 0, 0}, {32, 32, 4, 0}, {0, 32, 2, 32},
}

// wrongTensors: shapes that may not be, with as many numbers as they ask or none, and shapes that may be, with too few numbers or too many.
func wrongTensors() []api.Tensor {
	return []api.Tensor{
		{},
		of(nil, 1, 2),
		of([]int{2}),
		of([]int{2}, 1),
		of([]int{2}, 1, 2, 3),
		of([]int{0}, 1),
		of([]int{2, 2}, 1, 2, 3),
		of([]int{2, 3}, 1, 2, 3, 4, 5, 6, 7),
		of([]int{2, 3}),
		{Shape: []int{32, 32, 4}, Data: make([]int64, api.MaxElems-1)},
		{Shape: []int{32, 32, 4}, Data: make([]int64, api.MaxElems+1)},
		counted(1, 1, 1, 1, 1),
		counted(0, 0, 0, 0, 0),
		counted(33),
		counted(1, 33),
		counted(0, 33),
		counted(8, 27, 19),
		counted(32, 32, 5),
		of([]int{-1}),
		of([]int{-1}, 1),
		of([]int{-1, -1}, 1),
		of([]int{-2, -3}, 1, 2, 3, 4, 5, 6),
		of([]int{0, -1}),
		of([]int{math.MaxInt}, 1),
		of([]int{math.MinInt}),
		of([]int{half, 4}),
		of([]int{half, 2, 2, 1}),
	}
}

func TestRight(t *testing.T) {
	for _, how := range ways {
		if !fold.Right(how) {
			t.Errorf("Right(%d): false", how)
		}
	}
	for _, how := range otherWays {
		if fold.Right(how) {
			t.Errorf("Right(%d): true", how)
		}
	}
}

func TestNone(t *testing.T) {
	for how, want := range map[int]int64{api.Sum: 0, api.Prod: 1, api.Least: great, api.Most: least} {
		if got := fold.None(how); got != want {
			t.Errorf("None(%d): %d, not %d", how, got, want)
		}
	}
	for _, how := range otherWays {
		if got := fold.None(how); got != 0 {
			t.Errorf("None(%d): %d of no way", how, got)
		}
	}
}

func TestStep(t *testing.T) {
	for _, c := range []struct {
		how        int
		a, b, want int64
	}{
		{api.Sum, 2, 3, 5},
		{api.Sum, 2, -3, -1},
		{api.Sum, great, 1, least},
		{api.Sum, great, great, -2},
		{api.Sum, least, -1, great},
		{api.Sum, least, least, 0},
		{api.Prod, 3, -5, -15},
		{api.Prod, -3, -5, 15},
		{api.Prod, 0, least, 0},
		{api.Prod, least, -1, least},
		{api.Prod, great, 2, -2},
		{api.Prod, great, great, 1},
		{api.Prod, 1 << 32, 1 << 32, 0},
		{api.Prod, 1 << 62, 2, least},
		{api.Least, 2, 3, 2},
		{api.Least, 3, 2, 2},
		{api.Least, -2, -3, -3},
		{api.Least, 4, 4, 4},
		{api.Least, great, least, least},
		{api.Least, least, great, least},
		{api.Most, 2, 3, 3},
		{api.Most, 3, 2, 3},
		{api.Most, -2, -3, -2},
		{api.Most, 4, 4, 4},
		{api.Most, great, least, great},
		{api.Most, least, great, great},
	} {
		if got := fold.Step(c.how, c.a, c.b); got != c.want {
			t.Errorf("Step(%d, %d, %d): %d, not %d", c.how, c.a, c.b, got, c.want)
		}
	}
}

// TestStepOfAll asks each way of all pairs of numbers, and of none with each.
func TestStepOfAll(t *testing.T) {
	for _, how := range ways {
		for _, a := range numbers {
			for _, b := range numbers {
				if got, want := fold.Step(how, a, b), folded(how, []int64{a, b}); got != want {
					t.Errorf("Step(%d, %d, %d): %d, not %d", how, a, b, got, want)
				}
			}
			if fold.Step(how, fold.None(how), a) != a || fold.Step(how, a, fold.None(how)) != a {
				t.Errorf("Step(%d) of None and %d: not %d", how, a, a)
			}
		}
	}
}

func TestStepOfOtherWays(t *testing.T) {
	for _, how := range otherWays {
		for _, a := range numbers {
			if fold.Step(how, a, 6) != 0 || fold.Step(how, 5, a) != 0 {
				t.Errorf("Step(%d) with %d: not 0", how, a)
			}
		}
	}
}

func TestDo(t *testing.T) {
	x := of([]int{2, 3}, 1, 2, 3, 4, 5, 6)
	y := of([]int{2, 3}, 4, -2, 9, -7, 5, 9)
	z := of([]int{2, 2, 2}, 1, -2, 3, -4, 5, -6, 7, -8)
	for _, c := range []struct {
		how  int
		x    api.Tensor
		axes []int
		want api.Tensor
	}{
		{api.Sum, of([]int{3}, 1, 2, 3), []int{0}, of(nil, 6)},
		{api.Sum, x, []int{0}, of([]int{3}, 5, 7, 9)},
		{api.Sum, x, []int{1}, of([]int{2}, 6, 15)},
		{api.Sum, x, []int{0, 1}, of(nil, 21)},
		{api.Sum, x, nil, x},
		{api.Prod, x, []int{0}, of([]int{3}, 4, 10, 18)},
		{api.Prod, x, []int{1}, of([]int{2}, 6, 120)},
		{api.Prod, x, []int{0, 1}, of(nil, 720)},
		{api.Prod, x, nil, x},
		{api.Least, y, []int{0}, of([]int{3}, -7, -2, 9)},
		{api.Least, y, []int{1}, of([]int{2}, -2, -7)},
		{api.Least, y, []int{0, 1}, of(nil, -7)},
		{api.Least, y, nil, y},
		{api.Most, y, []int{0}, of([]int{3}, 4, 5, 9)},
		{api.Most, y, []int{1}, of([]int{2}, 9, 9)},
		{api.Most, y, []int{0, 1}, of(nil, 9)},
		{api.Most, y, nil, y},
		{api.Sum, z, []int{0}, of([]int{2, 2}, 6, -8, 10, -12)},
		{api.Sum, z, []int{1}, of([]int{2, 2}, 4, -6, 12, -14)},
		{api.Sum, z, []int{2}, of([]int{2, 2}, -1, -1, -1, -1)},
		{api.Prod, z, []int{0, 1}, of([]int{2}, 105, 384)},
		{api.Least, z, []int{0, 2}, of([]int{2}, -6, -8)},
		{api.Most, z, []int{1, 2}, of([]int{2}, 3, 7)},
		{api.Most, z, []int{0, 1, 2}, of(nil, 7)},
		// A length of 1 goes away too, and the numbers stay as they are.
		{api.Sum, of([]int{1, 3}, 7, 8, 9), []int{0}, of([]int{3}, 7, 8, 9)},
		{api.Most, of([]int{3, 1}, 7, 8, 9), []int{1}, of([]int{3}, 7, 8, 9)},
	} {
		got, why := fold.Do(c.how, c.x, c.axes)
		answered(t, got, why, c.want, c.how, c.x, c.axes)
	}
}

// TestDoGoesRound: sums and products in 64 bits, the least and the most at both ends.
func TestDoGoesRound(t *testing.T) {
	for _, c := range []struct {
		how  int
		l    []int64
		want int64
	}{
		{api.Sum, []int64{great, 1}, least},
		{api.Sum, []int64{least, -1}, great},
		{api.Sum, []int64{least, least}, 0},
		{api.Sum, []int64{great, great, great}, great - 2},
		{api.Sum, []int64{great, least}, -1},
		{api.Prod, []int64{great, 2}, -2},
		{api.Prod, []int64{least, -1}, least},
		{api.Prod, []int64{1 << 32, 1 << 32}, 0},
		{api.Prod, []int64{1 << 31, 1 << 31, 2}, least},
		{api.Prod, []int64{3037000500, 3037000500}, -9223372036709301616},
		{api.Least, []int64{great, great}, great},
		{api.Least, []int64{great, 0, least}, least},
		{api.Least, []int64{great}, great},
		{api.Most, []int64{least, least}, least},
		{api.Most, []int64{least, 0, great}, great},
		{api.Most, []int64{least}, least},
	} {
		got, why := fold.Do(c.how, of([]int{len(c.l)}, c.l...), []int{0})
		answered(t, got, why, of(nil, c.want), c.how, c.l)
	}
}

// TestDoOfAll: each way along each set of axes of tensors of all shapes.
func TestDoOfAll(t *testing.T) {
	for _, s := range someShapes {
		for _, x := range []api.Tensor{mixed(s...), odd(s...), counted(s...)} {
			for _, how := range ways {
				eachSet(len(s), func(axes []int) {
					got, why := fold.Do(how, x, axes)
					answered(t, got, why, foldedAway(how, x, axes), how, s, axes)
				})
			}
		}
	}
}

// TestOfNoAxes: a copy.
func TestOfNoAxes(t *testing.T) {
	for _, s := range append(someShapes, []int{32, 32, 32, 0}) {
		for _, how := range ways {
			for _, axes := range [][]int{nil, {}} {
				got, why := fold.Do(how, mixed(s...), axes)
				answered(t, got, why, mixed(s...), how, s, axes)
			}
		}
	}
}

// TestOfRank0: it has no axes but none, and stays the number it is.
func TestOfRank0(t *testing.T) {
	for _, how := range ways {
		for _, n := range numbers {
			got, why := fold.Do(how, of(nil, n), nil)
			answered(t, got, why, of(nil, n), how, n)
		}
		for _, axis := range append(far, 0, 1, 2, 3, 4) {
			got, why := fold.Do(how, of(nil, 7), []int{axis})
			refused(t, got, why, api.ErrArg, how, "rank 0", axis)
		}
	}
}

// TestOfNoNumbers: None wherever a length of 0 is folded away, no numbers where one stays.
func TestOfNoNumbers(t *testing.T) {
	for _, how := range ways {
		n := none(how)
		for _, c := range []struct {
			s, axes []int
			want    api.Tensor
		}{
			{[]int{0}, []int{0}, of(nil, n)},
			{[]int{0}, nil, of([]int{0})},
			{[]int{0, 2}, []int{0}, of([]int{2}, n, n)},
			{[]int{0, 2}, []int{1}, of([]int{0})},
			{[]int{0, 2}, []int{0, 1}, of(nil, n)},
			{[]int{2, 0}, []int{0}, of([]int{0})},
			{[]int{2, 0}, []int{1}, of([]int{2}, n, n)},
			{[]int{0, 0}, []int{0}, of([]int{0})},
			{[]int{0, 0}, []int{0, 1}, of(nil, n)},
			{[]int{2, 0, 2}, []int{1}, of([]int{2, 2}, n, n, n, n)},
			{[]int{2, 0, 2}, []int{0, 1}, of([]int{2}, n, n)},
			{[]int{2, 0, 2}, []int{0, 2}, of([]int{0})},
			{[]int{0, 3, 0, 2}, []int{0, 2}, of([]int{3, 2}, n, n, n, n, n, n)},
			{[]int{0, 3, 0, 2}, []int{1, 2}, of([]int{0, 2})},
			{[]int{32, 32, 4, 0}, []int{3}, api.Tensor{Shape: []int{32, 32, 4}, Data: slices.Repeat([]int64{n}, api.MaxElems)}},
		} {
			got, why := fold.Do(how, of(c.s), c.axes)
			answered(t, got, why, c.want, how, c.s, c.axes)
		}
	}
}

// TestAnswerThatMayNotBe: ErrShape, where folding a length of 0 away leaves too many numbers; other axes leave few.
func TestAnswerThatMayNotBe(t *testing.T) {
	for _, c := range []struct {
		s, axes []int
		why     api.Errno
	}{
		{[]int{32, 32, 32, 0}, []int{3}, api.ErrShape},
		{[]int{0, 32, 32, 32}, []int{0}, api.ErrShape},
		{[]int{32, 0, 32, 32}, []int{1}, api.ErrShape},
		{[]int{32, 32, 0, 32}, []int{2}, api.ErrShape},
		{[]int{32, 32, 5, 0}, []int{3}, api.ErrShape},
		{[]int{0, 17, 16, 16}, []int{0}, api.ErrShape},
		{[]int{0, 15, 13, 21}, []int{0}, api.OK},
		{[]int{0, 16, 16, 16}, []int{0}, api.OK},
		{[]int{32, 32, 32, 0}, nil, api.OK},
		{[]int{32, 32, 32, 0}, []int{0}, api.OK},
		{[]int{32, 32, 32, 0}, []int{2}, api.OK},
		{[]int{32, 32, 32, 0}, []int{2, 3}, api.OK},
		{[]int{32, 0, 32, 32}, []int{0, 1}, api.OK},
		{[]int{32, 32, 32, 0}, []int{0, 1, 2, 3}, api.OK},
	} {
		for _, how := range ways {
			got, why := fold.Do(how, of(c.s), c.axes)
			if c.why != api.OK {
				refused(t, got, why, c.why, how, c.s, c.axes)
				continue
			}
			answered(t, got, why, foldedAway(how, of(c.s), c.axes), how, c.s, c.axes)
		}
	}
}

// risingAxes is what the chapter asks of axes.
func risingAxes(axes []int, rank int) bool {
	for i, axis := range axes {
		if axis < 0 || axis >= rank || i > 0 && axis <= axes[i-1] {
			return false
		}
	}
	return true
}

// TestAllLists: of all lists about a tensor's axes, those that rise are folded along, and the others refused.
func TestAllLists(t *testing.T) {
	for _, s := range [][]int{nil, {0}, {1}, {3}, {2, 3}, {3, 3}, {0, 2}, {2, 0, 3}, {2, 2, 2}, {2, 3, 2, 2}, {1, 1, 1, 1}, {2, 0, 1, 3}} {
		x := mixed(s...)
		for n := range 6 {
			eachList(n, append([]int{-1}, upTo(len(s)+1)...), func(axes []int) {
				for _, how := range ways {
					got, why := fold.Do(how, x, axes)
					if risingAxes(axes, len(s)) {
						answered(t, got, why, foldedAway(how, x, axes), how, s, axes)
					} else {
						refused(t, got, why, api.ErrArg, how, s, axes)
					}
				}
			})
		}
	}
}

// TestAxesOfAnySize: numbers that are no axis, wherever they stand among axes.
func TestAxesOfAnySize(t *testing.T) {
	for _, s := range someShapes {
		x := mixed(s...)
		for _, n := range append(far, len(s)) {
			eachSet(len(s), func(axes []int) {
				for i := range len(axes) + 1 {
					l := slices.Insert(slices.Clone(axes), i, n)
					got, why := fold.Do(api.Sum, x, l)
					refused(t, got, why, api.ErrArg, s, l)
				}
			})
		}
	}
}

// TestAxesThatDoNotRise: an axis told twice, and axes the other way round, are not read as a set.
func TestAxesThatDoNotRise(t *testing.T) {
	for _, axes := range [][]int{{0, 0}, {1, 1}, {2, 2}, {1, 0}, {2, 0}, {2, 1}, {0, 1, 1}, {0, 0, 1}, {0, 2, 1}, {1, 0, 2}, {2, 1, 0}, {0, 1, 2, 2}, {0, 1, 2, 0}, {0, 1, 2, 3}} {
		for _, how := range ways {
			got, why := fold.Do(how, counted(2, 3, 4), axes)
			refused(t, got, why, api.ErrArg, how, axes)
		}
	}
}

// someAxes: lists that are axes of some tensors, and ones that are of none.
var someAxes = [][]int{nil, {0}, {1}, {0, 1}, {0, 1, 2, 3}, {1, 0}, {0, 0}, {-1}, {4}, {9}, {math.MinInt, math.MaxInt}}

// TestOtherWays: ErrArg, be the tensor Right or not, and the axes its own or not: it is named first (R3).
func TestOtherWays(t *testing.T) {
	for _, x := range append(wrongTensors(), of(nil, 7), counted(2, 3), counted(0, 3), counted(8, 8, 8, 8), of([]int{32, 32, 32, 0})) {
		for _, how := range otherWays {
			for _, axes := range append(someAxes, []int{3}) {
				got, why := fold.Do(how, x, axes)
				refused(t, got, why, api.ErrArg, how, x.Shape, axes)
			}
		}
	}
}

// TestWrongTensors: ErrShape, be the axes its own or not: it is named ahead of them (R3).
func TestWrongTensors(t *testing.T) {
	for _, x := range wrongTensors() {
		for _, how := range ways {
			for _, axes := range append(someAxes, upTo(len(x.Shape))) {
				got, why := fold.Do(how, x, axes)
				refused(t, got, why, api.ErrShape, how, x.Shape, len(x.Data), axes)
			}
		}
	}
}

// TestWrongAxesFirst: ErrArg, though what is left without those axes that are its own may not be either (R3).
func TestWrongAxesFirst(t *testing.T) {
	for _, axes := range [][]int{{3, 4}, {-1, 3}, {3, 3}, {3, 2}, {3, 0}, {3, -1}, {4}, {3, math.MaxInt}, {math.MinInt, 3}} {
		for _, how := range ways {
			got, why := fold.Do(how, of([]int{32, 32, 32, 0}), axes)
			refused(t, got, why, api.ErrArg, how, axes)
		}
	}
}

// roomy makes a list with spare room that is full of n.
func roomy[T any](n T, l ...T) []T {
	r := slices.Grow(slices.Clone(l), 6)
	for i := range r[len(l):cap(r)] {
		r[len(l):cap(r)][i] = n
	}
	return r
}

// whole is x with all of its room.
func whole(x api.Tensor) api.Tensor {
	return api.Tensor{Shape: x.Shape[:cap(x.Shape)], Data: x.Data[:cap(x.Data)]}
}

// kept is a tensor by itself, all of its room included.
func kept(x api.Tensor) api.Tensor {
	x = whole(x)
	return api.Tensor{Shape: slices.Clone(x.Shape), Data: slices.Clone(x.Data)}
}

// overwrite writes over all of a list's room.
func overwrite[T int | int64](l []T) {
	l = l[:cap(l)]
	for i := range l {
		l[i] = -77
	}
}

// given is what a call is handed.
type given struct {
	x    api.Tensor
	axes []int
}

// roomy is g by itself, its lists with spare room that is full of n.
func (g given) roomy(n int) given {
	return given{api.Tensor{Shape: roomy(n, g.x.Shape...), Data: roomy(int64(n), g.x.Data...)}, roomy(n, g.axes...)}
}

// kept is g by itself, all of its room included.
func (g given) kept() given {
	return given{kept(g.x), slices.Clone(g.axes[:cap(g.axes)])}
}

// unchanged tells whether all of g's room holds what is told.
func (g given) unchanged(want given) bool {
	return alike(whole(g.x), want.x) && slices.Equal(g.axes[:cap(g.axes)], want.axes)
}

// answers are all tensors that the ways, and one that is none, make of g, in their order.
func (g given) answers() []api.Tensor {
	var l []api.Tensor
	for _, how := range append([]int{0}, ways...) {
		x, _ := fold.Do(how, g.x, g.axes)
		l = append(l, x)
	}
	return l
}

// allGiven: tensors of all shapes along each set of axes, and what is refused.
func allGiven() []given {
	var l []given
	for _, s := range someShapes {
		eachSet(len(s), func(axes []int) { l = append(l, given{mixed(s...), axes}) })
	}
	for _, axes := range someAxes {
		l = append(l, given{counted(2, 3), axes})
	}
	for _, x := range wrongTensors() {
		l = append(l, given{x, nil}, given{x, []int{0}})
	}
	return append(l, given{of([]int{32, 32, 32, 0}), []int{3}})
}

// TestHandedInIsKept: no call changes a list, its spare room included, be it refused or not (R2, R3).
func TestHandedInIsKept(t *testing.T) {
	for _, g := range allGiven() {
		r := g.roomy(7)
		want := r.kept()
		r.answers()
		if !r.unchanged(want) {
			t.Errorf("%v, %v: changed", g.x.Shape, g.axes)
		}
	}
}

// TestAnswersAreNew: writing over an answer changes nothing that was handed in, and no other answer (R2).
func TestAnswersAreNew(t *testing.T) {
	for _, g := range allGiven() {
		r := g.roomy(7)
		want := r.kept()
		all := append(r.answers(), r.answers()...)
		var made []api.Tensor
		for _, a := range all {
			made = append(made, kept(a))
		}
		for i, a := range all {
			overwrite(a.Shape)
			overwrite(a.Data)
			for j, b := range all[i+1:] {
				if !alike(whole(b), made[i+1+j]) {
					t.Errorf("%v, %v: answers %d and %d share memory", g.x.Shape, g.axes, i, i+1+j)
				}
			}
		}
		if !r.unchanged(want) {
			t.Errorf("%v, %v: an answer shares their memory", g.x.Shape, g.axes)
		}
	}
}

// TestNothingIsKept: writing over what was handed in changes no answer, and the next call answers the same (R2).
func TestNothingIsKept(t *testing.T) {
	for _, g := range allGiven() {
		r := g.roomy(7)
		all := r.answers()
		overwrite(r.x.Shape)
		overwrite(r.x.Data)
		overwrite(r.axes)
		for i, want := range g.answers() {
			if !alike(all[i], want) {
				t.Errorf("%v, %v: answer %d changes with what was handed in", g.x.Shape, g.axes, i)
			}
		}
	}
}

// TestSpareRoom: what lies behind a list does not change what is answered (R5).
func TestSpareRoom(t *testing.T) {
	for _, g := range allGiven() {
		want := g.answers()
		for _, n := range []int{0, 1, 2, 3, -1, math.MaxInt} {
			for i, got := range g.roomy(n).answers() {
				if !alike(got, want[i]) {
					t.Errorf("%v, %v, spare room of %d: answer %d is %v", g.x.Shape, g.axes, n, i, got)
				}
			}
		}
	}
	got, why := fold.Do(api.Sum, api.Tensor{Shape: []int{2}, Data: roomy(int64(5), 1)}, []int{0})
	refused(t, got, why, api.ErrShape, "spare room for numbers")
	got, why = fold.Do(api.Sum, api.Tensor{Shape: roomy(2), Data: []int64{1, 2}}, nil)
	refused(t, got, why, api.ErrShape, "spare room for lengths")
	got, why = fold.Do(api.Sum, of([]int{2, 2}, 1, 2, 3, 4), roomy(1, 0))
	answered(t, got, why, of([]int{2}, 4, 6), "spare room for axes")
}

// TestSharedMemory: the axes may share memory with the tensor's shape.
func TestSharedMemory(t *testing.T) {
	l := []int{2, 0, 1, 2}
	got, why := fold.Do(api.Most, api.Tensor{Shape: l[2:], Data: []int64{3, 4}}, l[1:3])
	answered(t, got, why, of(nil, 4), "of one list")
	got, why = fold.Do(api.Sum, api.Tensor{Shape: l[:2]}, l[2:3])
	answered(t, got, why, of([]int{2}, 0, 0), "of one list")
	if !slices.Equal(l, []int{2, 0, 1, 2}) {
		t.Errorf("changed: %v", l)
	}
}

// TestNilAndEmpty: they mean the same (R4).
func TestNilAndEmpty(t *testing.T) {
	for _, how := range ways {
		for _, s := range [][]int{nil, {}, roomy(9)} {
			for _, axes := range [][]int{nil, {}, roomy(0)} {
				got, why := fold.Do(how, of(s, 5), axes)
				answered(t, got, why, of(nil, 5), how, s, axes)
			}
		}
		for _, data := range [][]int64{nil, {}, roomy(int64(9))} {
			got, why := fold.Do(how, of([]int{0}, data...), []int{0})
			answered(t, got, why, of(nil, none(how)), how, "no numbers")
			got, why = fold.Do(how, of(nil, data...), nil)
			refused(t, got, why, api.ErrShape, how, "rank 0 without a number")
		}
	}
}

// TestLongLists: calls end, of long lists too (R1).
func TestLongLists(t *testing.T) {
	const long = 1 << 20
	data := make([]int64, long)
	for _, n := range []int{0, 1, -1, math.MaxInt, math.MinInt} {
		l := slices.Repeat([]int{n}, long)
		for _, how := range ways {
			got, why := fold.Do(how, counted(2, 3), l)
			refused(t, got, why, api.ErrArg, how, "long axes of", n)
			got, why = fold.Do(how, of(l, data...), l)
			refused(t, got, why, api.ErrShape, how, "a long shape of", n)
			got, why = fold.Do(how, of([]int{2, 3}, data...), l)
			refused(t, got, why, api.ErrShape, how, "many numbers", n)
		}
	}
	got, why := fold.Do(api.Sum, counted(2, 3), upTo(long))
	refused(t, got, why, api.ErrArg, "long axes that rise")
}
