// Tests of P8.1, and of the rules R1 to R5 for the calls of window.
package window_test

import (
	"math"
	"math/big"
	"slices"
	"testing"

	"parquetry/api"
	"parquetry/window"
)

const (
	great = math.MaxInt64
	least = math.MinInt64
)

// half is a length that, taken four times, goes round to 0.
const half = math.MaxInt/2 + 1

// far: numbers that are no axis, no way to fold, no width and no distance, such as would be one if they were cut short or went round.
var far = []int{-1, -2, -3, -4, -31, -32, 33, 34, 64, 255, 256, 257, -255, 1 << 16, 1<<16 + 2, 1 << 32, 1<<32 + 1, 1<<32 + 4, -1 << 32, half, half + 3, -half, math.MaxInt - 1, math.MaxInt, math.MinInt, math.MinInt + 1}

var ways = []int{api.Sum, api.Prod, api.Least, api.Most}

// otherWays: numbers that are no way to fold, ops among them.
var otherWays = append([]int{0, 5, api.Min, api.Max, api.Fold, api.Window, 1<<32 + api.Most}, far...)

// otherWidths: numbers that are neither a width nor a distance.
var otherWidths = append([]int{0}, far...)

// numbers at the ends of their range, about 0, about where products go round, and some of which the lower half is 0.
var numbers = []int64{0, 1, -1, 2, -2, 3, -5, 7, 1 << 31, -1 << 31, 1 << 32, -1 << 32, 3037000499, 3037000500, -3037000500, 1 << 62, -1 << 62, great - 1, great, least + 1, least}

func of(s []int, l ...int64) api.Tensor { return api.Tensor{Shape: s, Data: l} }

// row makes a tensor of one axis.
func row(l ...int64) api.Tensor { return of([]int{len(l)}, l...) }

// product multiplies, asking nothing of the program.
func product(s []int) int {
	n := 1
	for _, length := range s {
		n *= length
	}
	return n
}

// filled makes a tensor of s, its numbers told by their order.
func filled(tell func(i int) int64, s ...int) api.Tensor {
	t := api.Tensor{Shape: slices.Clone(s)}
	for i := range product(s) {
		t.Data = append(t.Data, tell(i))
	}
	return t
}

// mixed makes a tensor of s of small numbers and of those at the ends.
func mixed(s ...int) api.Tensor {
	return filled(func(i int) int64 {
		if i%3 == 1 {
			return int64(i*5 - 40)
		}
		return numbers[(i*4+i/7+3)%len(numbers)]
	}, s...)
}

// odd makes a tensor of s of odd numbers alone, of which no product goes round to 0.
func odd(s ...int) api.Tensor {
	return filled(func(i int) int64 { return int64(i)*0x5851f42d4c957f2c + int64(i%5)*2 - 3 }, s...)
}

// counted makes a tensor of s of which no number is like another.
func counted(s ...int) api.Tensor {
	return filled(func(i int) int64 { return int64(1001 + i) }, s...)
}

func alike(a, b api.Tensor) bool {
	return slices.Equal(a.Shape, b.Shape) && slices.Equal(a.Data, b.Data)
}

// call is what Do is handed.
type call struct {
	how               int
	x                 api.Tensor
	axis, wide, apart int
}

func (c call) do() (api.Tensor, api.Errno) {
	return window.Do(c.how, c.x, c.axis, c.wide, c.apart)
}

// wrong tells of a call that answers otherwise than it must.
func (c call) wrong(t *testing.T, got api.Tensor, why api.Errno, want any) {
	t.Helper()
	t.Errorf("Do(%d, shape %v of %d numbers, axis %d, wide %d, apart %d): %v, %d, not %v", c.how, c.x.Shape, len(c.x.Data), c.axis, c.wide, c.apart, got, int(why), want)
}

// answered tells whether c answers that tensor.
func (c call) answered(t *testing.T, want api.Tensor) {
	t.Helper()
	if got, why := c.do(); why != api.OK || !alike(got, want) {
		c.wrong(t, got, why, want)
	}
}

// refused tells whether c answers that refusal, and nothing beside it.
func (c call) refused(t *testing.T, want api.Errno) {
	t.Helper()
	if got, why := c.do(); why != want || len(got.Shape) != 0 || len(got.Data) != 0 {
		c.wrong(t, got, why, int(want))
	}
}

// beginnings are where windows of wide numbers begin in n, told one after the other.
func beginnings(n, wide, apart int) []int {
	var l []int
	for first := 0; first+wide <= n; first += apart {
		l = append(l, first)
	}
	return l
}

// none is what layer 6 says of no numbers.
func none(how int) int64 {
	return map[int]int64{api.Sum: 0, api.Prod: 1, api.Least: great, api.Most: least}[how]
}

// round is the whole number n as 64 bits that go round.
func round(n *big.Int) *big.Int {
	low := new(big.Int).And(n, new(big.Int).SetUint64(math.MaxUint64))
	return n.SetInt64(int64(low.Uint64()))
}

// folded tells what numbers fold to, one and more, by numbers that do not go round.
func folded(how int, l []int64) int64 {
	n := big.NewInt(none(how))
	switch how {
	case api.Sum:
		for _, k := range l {
			n.Add(n, big.NewInt(k))
		}
	case api.Prod:
		for _, k := range l {
			round(n.Mul(n, big.NewInt(k)))
		}
	case api.Least:
		return slices.Min(l)
	case api.Most:
		return slices.Max(l)
	}
	return round(n).Int64()
}

// eachPlace hands over each place of s, the last way first, in one list that is filled anew each time.
func eachPlace(s []int, look func(at []int)) {
	at := make([]int, len(s))
	for range product(s) {
		look(at)
		for axis := len(s) - 1; axis >= 0; axis-- {
			at[axis]++
			if at[axis] < s[axis] {
				break
			}
			at[axis] = 0
		}
	}
}

// number is the one of x at a place.
func number(x api.Tensor, at []int) int64 {
	i := 0
	for axis, place := range at {
		i = i*x.Shape[axis] + place
	}
	return x.Data[i]
}

// reckoned is what c must answer, each number folded from a list of its own.
func (c call) reckoned() api.Tensor {
	first := beginnings(c.x.Shape[c.axis], c.wide, c.apart)
	want := api.Tensor{Shape: slices.Clone(c.x.Shape)}
	want.Shape[c.axis] = len(first)
	eachPlace(want.Shape, func(at []int) {
		var l []int64
		from := slices.Clone(at)
		for k := range c.wide {
			from[c.axis] = first[at[c.axis]] + k
			l = append(l, number(c.x, from))
		}
		want.Data = append(want.Data, folded(c.how, l))
	})
	return want
}

// reckonedAll asks of each way along each axis of x, with each of the widths and distances.
func reckonedAll(t *testing.T, x api.Tensor, widths, distances []int) {
	t.Helper()
	for _, how := range ways {
		for axis := range x.Shape {
			for _, wide := range widths {
				for _, apart := range distances {
					c := call{how, x, axis, wide, apart}
					c.answered(t, c.reckoned())
				}
			}
		}
	}
}

// smallShapes: ones of ranks 1 to 4, lengths of 0 and 1 among them.
var smallShapes = [][]int{
	{0}, {1}, {2}, {5}, {32},
	{2, 3}, {3, 2}, {1, 4}, {4, 1}, {0, 3}, {3, 0}, {0, 0}, {3, 3}, {5, 7},
	{2, 3, 4}, {4, 1, 2}, {5, 4, 3}, {2, 2, 2}, {0, 2, 3}, {2, 0, 3}, {2, 3, 0},
	{2, 3, 4, 5}, {5, 4, 3, 2}, {3, 1, 2, 2}, {1, 1, 1, 1}, {2, 2, 2, 2}, {0, 2, 3, 4}, {2, 0, 3, 4}, {2, 3, 0, 4}, {2, 3, 4, 0}, {0, 0, 0, 0},
}

// greatShapes: ones of MaxElems numbers, or of none though all other lengths are great.
var greatShapes = [][]int{{32, 32}, {32, 4, 32}, {4, 32, 32}, {32, 32, 4}, {16, 16, 16}, {8, 8, 8, 8}, {2, 32, 2, 32}, {32, 32, 0}, {0, 32, 32, 32}, {32, 0, 32, 32}, {32, 32, 0, 32}, {32, 32, 32, 0}}

// rightTensors: ones of each shape, rank 0 among them.
func rightTensors() []api.Tensor {
	l := []api.Tensor{of(nil, 7)}
	for _, s := range slices.Concat(smallShapes, greatShapes) {
		l = append(l, counted(s...))
	}
	return l
}

// wrongTensors: shapes that may not be, with as many numbers as they ask or none, and shapes that may be, with too few numbers or too many.
func wrongTensors() []api.Tensor {
	return []api.Tensor{
		{},
		of(nil, 1, 2),
		of([]int{2}),
		of([]int{2}, 1),
		of([]int{2}, 1, 2, 3),
		of([]int{0}, 1),
		of([]int{2, 2}, 1, 2, 3),
		of([]int{2, 3}, 1, 2, 3, 4, 5, 6, 7),
		of([]int{2, 3}),
		{Shape: []int{32, 32, 4}, Data: make([]int64, api.MaxElems-1)},
		{Shape: []int{32, 32, 4}, Data: make([]int64, api.MaxElems+1)},
		counted(1, 1, 1, 1, 1),
		counted(0, 0, 0, 0, 0),
		counted(33),
		counted(1, 33),
		counted(0, 33),
		counted(8, 27, 19),
		counted(32, 32, 5),
		of([]int{-1}),
		of([]int{-1}, 1),
		of([]int{-1, -1}, 1),
		of([]int{-2, -3}, 1, 2, 3, 4, 5, 6),
		of([]int{0, -1}),
		of([]int{math.MaxInt}, 1),
		of([]int{math.MinInt}),
		of([]int{half, 4}),
		of([]int{half, 2, 2, 1}),
	}
}

func TestOut(t *testing.T) {
	for _, c := range []struct{ n, wide, apart, want int }{
		{4, 2, 2, 2}, {4, 2, 1, 3}, {4, 2, 3, 1}, {5, 2, 2, 2}, {5, 2, 3, 2}, {6, 2, 2, 3}, {7, 3, 2, 3}, {10, 3, 4, 2}, {11, 3, 4, 3},
		{7, 1, 1, 7}, {7, 1, 2, 4}, {8, 1, 2, 4}, {7, 1, 6, 2}, {7, 1, 7, 1},
		{3, 3, 1, 1}, {3, 3, 9, 1}, {1, 1, 1, 1}, {1, 1, 32, 1}, {32, 32, 32, 1}, {32, 1, 1, 32}, {32, 31, 1, 2},
		{3, 4, 1, 0}, {3, 4, 4, 0}, {0, 1, 1, 0}, {0, 32, 32, 0}, {1, 2, 1, 0},
		{40, 3, 2, 19}, {33, 33, 33, 1}, {100, 34, 33, 3},
		{3, 0, 1, 0}, {3, 1, 0, 0}, {3, 0, 0, 0}, {3, -1, 1, 0}, {3, 1, -1, 0}, {3, -1, -1, 0}, {0, 0, 1, 0}, {0, 0, 0, 0},
		{-1, 1, 1, 0}, {-1, -1, 1, 0}, {-1, -5, 1, 0}, {-1, -5, -1, 0}, {-5, -5, -5, 0},
		{math.MaxInt, 1, 1, math.MaxInt}, {math.MaxInt, 2, 1, math.MaxInt - 1}, {math.MaxInt, 1, math.MaxInt, 1}, {math.MaxInt, math.MaxInt, math.MaxInt, 1}, {math.MaxInt, 1, math.MaxInt - 1, 2}, {math.MaxInt, 1, 2, half},
		{math.MaxInt - 1, math.MaxInt, 1, 0}, {math.MinInt, 1, 1, 0}, {math.MinInt, math.MinInt, 1, 0}, {math.MinInt, math.MaxInt, 1, 0}, {math.MaxInt, math.MinInt, 1, 0}, {math.MaxInt, 1, math.MinInt, 0},
	} {
		if got := window.Out(c.n, c.wide, c.apart); got != c.want {
			t.Errorf("Out(%d, %d, %d): %d, not %d", c.n, c.wide, c.apart, got, c.want)
		}
	}
}

// TestOutOfSmall: as many as there are beginnings, of all small numbers.
func TestOutOfSmall(t *testing.T) {
	for n := range 70 {
		for wide := 1; wide < 72; wide++ {
			for apart := 1; apart < 72; apart++ {
				if got, want := window.Out(n, wide, apart), len(beginnings(n, wide, apart)); got != want {
					t.Errorf("Out(%d, %d, %d): %d, not %d", n, wide, apart, got, want)
				}
			}
		}
	}
}

// outOf is what the chapter says of Out, by numbers that do not go round.
func outOf(n, wide, apart int) int {
	if wide < 1 || apart < 1 || n < 0 || wide > n {
		return 0
	}
	out := big.NewInt(int64(n))
	out.Sub(out, big.NewInt(int64(wide)))
	out.Quo(out, big.NewInt(int64(apart)))
	return int(out.Add(out, big.NewInt(1)).Int64())
}

func TestOutOfAnySize(t *testing.T) {
	sizes := append([]int{0, 1, 2, 3, 31, 32, half - 1, math.MaxInt - 2}, far...)
	for _, n := range sizes {
		for _, wide := range sizes {
			for _, apart := range sizes {
				if got, want := window.Out(n, wide, apart), outOf(n, wide, apart); got != want {
					t.Errorf("Out(%d, %d, %d): %d, not %d", n, wide, apart, got, want)
				}
			}
		}
	}
}

func TestDo(t *testing.T) {
	x, y := row(1, 2, 3, 4, 5), of([]int{2, 3}, 1, 2, 3, 4, 5, 6)
	z := of([]int{2, 2, 3}, 1, 2, 3, 4, 5, 6, 7, 8, 9, 10, 11, 12)
	for _, c := range []struct {
		call
		want api.Tensor
	}{
		{call{api.Sum, row(1, 2, 3, 4), 0, 2, 2}, row(3, 7)},
		{call{api.Sum, x, 0, 2, 1}, row(3, 5, 7, 9)},
		{call{api.Sum, x, 0, 3, 2}, row(6, 12)},
		{call{api.Prod, x, 0, 3, 1}, row(6, 24, 60)},
		{call{api.Prod, x, 0, 2, 3}, row(2, 20)},
		{call{api.Least, row(3, -1, 2, 5), 0, 2, 1}, row(-1, -1, 2)},
		{call{api.Most, row(-3, -1, -2, -5), 0, 2, 2}, row(-1, -2)},
		{call{api.Sum, y, 0, 2, 1}, of([]int{1, 3}, 5, 7, 9)},
		{call{api.Sum, y, 0, 1, 2}, of([]int{1, 3}, 1, 2, 3)},
		{call{api.Sum, y, 1, 2, 1}, of([]int{2, 2}, 3, 5, 9, 11)},
		{call{api.Most, y, 1, 1, 2}, of([]int{2, 2}, 1, 3, 4, 6)},
		{call{api.Prod, z, 0, 2, 1}, of([]int{1, 2, 3}, 7, 16, 27, 40, 55, 72)},
		{call{api.Least, z, 1, 2, 5}, of([]int{2, 1, 3}, 1, 2, 3, 7, 8, 9)},
		{call{api.Sum, z, 2, 2, 1}, of([]int{2, 2, 2}, 3, 5, 9, 11, 15, 17, 21, 23)},
		{call{api.Sum, of([]int{1, 2, 2, 2}, 1, 2, 3, 4, 5, 6, 7, 8), 1, 2, 1}, of([]int{1, 1, 2, 2}, 6, 8, 10, 12)},
		{call{api.Sum, of([]int{1, 2, 2, 2}, 1, 2, 3, 4, 5, 6, 7, 8), 3, 2, 1}, of([]int{1, 2, 2, 1}, 3, 7, 11, 15)},
	} {
		c.answered(t, c.want)
	}
}

// TestDoOfAll: each way along each axis of tensors of all small shapes, with few widths and distances.
func TestDoOfAll(t *testing.T) {
	for _, s := range smallShapes {
		for _, x := range []api.Tensor{mixed(s...), odd(s...), counted(s...)} {
			reckonedAll(t, x, []int{1, 2, 3, 4, 5, 6, 32}, []int{1, 2, 3, 4, 5, 32})
		}
	}
}

// TestEachWidth: all widths and distances that may be, along axes of which some are as long, some shorter.
func TestEachWidth(t *testing.T) {
	all := make([]int, api.MaxDim)
	for i := range all {
		all[i] = i + 1
	}
	for _, s := range [][]int{{32}, {31}, {17}, {2, 9}} {
		reckonedAll(t, odd(s...), all, all)
	}
}

func TestGreatestTensors(t *testing.T) {
	for _, s := range greatShapes {
		reckonedAll(t, odd(s...), []int{1, 3, 8, 32}, []int{1, 5})
	}
}

// TestWindowsOfOne: next to each other they are a copy; farther apart some numbers are left out.
func TestWindowsOfOne(t *testing.T) {
	for _, s := range slices.Concat(smallShapes, greatShapes) {
		for _, how := range ways {
			for axis := range s {
				call{how, mixed(s...), axis, 1, 1}.answered(t, mixed(s...))
			}
		}
	}
	for _, how := range ways {
		for _, n := range numbers {
			call{how, row(n), 0, 1, 1}.answered(t, row(n))
			call{how, row(n), 0, 1, 32}.answered(t, row(n))
		}
		call{how, row(great, 2, least, 4, 5), 0, 1, 2}.answered(t, row(great, least, 5))
		call{how, row(1, 2, 3, 4, 5), 0, 1, 4}.answered(t, row(1, 5))
		call{how, row(1, 2, 3, 4, 5), 0, 1, 5}.answered(t, row(1))
	}
}

// TestAsWideAsLong: one window, however far the next one would be.
func TestAsWideAsLong(t *testing.T) {
	for _, apart := range []int{1, 2, 3, 4, 31, 32} {
		call{api.Sum, row(1, 2, 3), 0, 3, apart}.answered(t, row(6))
		call{api.Prod, row(2, 3, 4), 0, 3, apart}.answered(t, row(24))
		call{api.Least, row(2, -3, 4), 0, 3, apart}.answered(t, row(-3))
		call{api.Most, row(2, -3, 4), 0, 3, apart}.answered(t, row(4))
		call{api.Sum, of([]int{2, 3}, 1, 2, 3, 4, 5, 6), 1, 3, apart}.answered(t, of([]int{2, 1}, 6, 15))
		call{api.Sum, of([]int{2, 3}, 1, 2, 3, 4, 5, 6), 0, 2, apart}.answered(t, of([]int{1, 3}, 5, 7, 9))
		call{api.Sum, filled(func(i int) int64 { return int64(i) }, 32), 0, 32, apart}.answered(t, row(496))
	}
}

// TestWiderThanLong: no windows; the axis stays, with length 0, beside the others.
func TestWiderThanLong(t *testing.T) {
	for _, s := range slices.Concat(smallShapes, greatShapes) {
		for axis, length := range s {
			want := slices.Clone(s)
			want[axis] = 0
			for wide := length + 1; wide <= api.MaxDim; wide++ {
				for _, how := range ways {
					call{how, counted(s...), axis, wide, 1}.answered(t, of(want))
					call{how, counted(s...), axis, wide, 32}.answered(t, of(want))
				}
			}
		}
	}
}

// TestRemainder: numbers behind the last window, and ones between windows, are in none.
func TestRemainder(t *testing.T) {
	call{api.Sum, row(1, 2, 3, 4, 5), 0, 2, 2}.answered(t, row(3, 7))
	call{api.Sum, row(1, 2, 3, 4, 5, 6), 0, 4, 3}.answered(t, row(10))
	call{api.Prod, row(1, 2, 3, 4, 5, 6, 0), 0, 2, 2}.answered(t, row(2, 12, 30))
	call{api.Least, row(1, 2, least, 4, 5, least), 0, 2, 3}.answered(t, row(1, 4))
	call{api.Most, row(1, 2, great, 4, 5, great, 7), 0, 2, 3}.answered(t, row(2, 5))
	call{api.Sum, row(1, 2, 3, 4, 5), 0, 2, 4}.answered(t, row(3))
	call{api.Sum, of([]int{2, 3}, 1, 2, 3, 4, 5, 6), 1, 2, 2}.answered(t, of([]int{2, 1}, 3, 9))
	call{api.Most, of([]int{3, 2}, 1, 2, 3, 4, 5, 6), 0, 2, 2}.answered(t, of([]int{1, 2}, 3, 4))
}

// TestLengthsOf0: no numbers, along an axis of length 0 or along another one.
func TestLengthsOf0(t *testing.T) {
	for _, c := range []struct {
		s                 []int
		axis, wide, apart int
		want              []int
	}{
		{[]int{0}, 0, 1, 1, []int{0}},
		{[]int{0}, 0, 32, 32, []int{0}},
		{[]int{0, 3}, 0, 1, 1, []int{0, 3}},
		{[]int{0, 3}, 1, 2, 1, []int{0, 2}},
		{[]int{0, 3}, 1, 3, 1, []int{0, 1}},
		{[]int{0, 3}, 1, 4, 1, []int{0, 0}},
		{[]int{3, 0}, 0, 1, 2, []int{2, 0}},
		{[]int{3, 0}, 1, 2, 2, []int{3, 0}},
		{[]int{0, 0}, 1, 1, 1, []int{0, 0}},
		{[]int{2, 0, 5}, 2, 2, 2, []int{2, 0, 2}},
		{[]int{2, 0, 5}, 1, 1, 1, []int{2, 0, 5}},
		{[]int{0, 4, 5, 6}, 3, 3, 2, []int{0, 4, 5, 2}},
		{[]int{32, 32, 32, 0}, 0, 1, 1, []int{32, 32, 32, 0}},
		{[]int{32, 32, 32, 0}, 2, 2, 1, []int{32, 32, 31, 0}},
		{[]int{32, 32, 32, 0}, 3, 1, 1, []int{32, 32, 32, 0}},
		{[]int{0, 32, 32, 32}, 1, 32, 32, []int{0, 1, 32, 32}},
	} {
		for _, how := range ways {
			call{how, of(c.s), c.axis, c.wide, c.apart}.answered(t, of(c.want))
		}
	}
}

// TestGoesRound: numbers at both ends, sums and products in 64 bits.
func TestGoesRound(t *testing.T) {
	call{api.Sum, row(great, 1, least, -1), 0, 2, 1}.answered(t, row(least, least+1, great))
	call{api.Sum, row(great, great, great), 0, 3, 1}.answered(t, row(great-2))
	call{api.Sum, row(least, least, great, least), 0, 2, 2}.answered(t, row(0, -1))
	call{api.Prod, row(great, 2, least, -1), 0, 2, 1}.answered(t, row(-2, 0, least))
	call{api.Prod, row(1<<32, 1<<32, 1<<31, -1), 0, 2, 1}.answered(t, row(0, least, -1<<31))
	call{api.Prod, row(3037000500, 3037000500), 0, 2, 1}.answered(t, row(-9223372036709301616))
	call{api.Least, row(great, great, least, 0), 0, 2, 1}.answered(t, row(great, least, least))
	call{api.Most, row(least, least, great, 0), 0, 2, 1}.answered(t, row(least, great, great))
	for _, a := range numbers {
		for _, b := range numbers {
			reckonedAll(t, row(a, b, a, a, b), []int{2, 3}, []int{1, 2})
		}
	}
}

// someAxes: numbers that are an axis of some tensors, and ones that are of none.
var someAxes = append([]int{0, 1, 2, 3, 4, 5}, far...)

// TestOtherWays: ErrArg, be the tensor Right or not, and the axis its own or not: it is named first (R3).
func TestOtherWays(t *testing.T) {
	for _, x := range append(wrongTensors(), rightTensors()...) {
		for _, how := range otherWays {
			for _, axis := range someAxes {
				call{how, x, axis, 1, 1}.refused(t, api.ErrArg)
			}
			call{how, x, 0, 0, 33}.refused(t, api.ErrArg)
		}
	}
}

// TestOtherWidths: ErrArg, be it the width, the distance or both, the tensor Right or not, and the axis its own or not (R3).
func TestOtherWidths(t *testing.T) {
	for _, x := range append(wrongTensors(), rightTensors()...) {
		for _, how := range ways {
			for _, n := range otherWidths {
				for _, axis := range []int{0, 1, 3, 4, -1, math.MaxInt} {
					for _, m := range []int{1, 2, 32} {
						call{how, x, axis, n, m}.refused(t, api.ErrArg)
						call{how, x, axis, m, n}.refused(t, api.ErrArg)
					}
					call{how, x, axis, n, n}.refused(t, api.ErrArg)
				}
			}
		}
	}
}

// TestWrongTensors: ErrShape, be the axis its own or not: it is named ahead of that (R3).
func TestWrongTensors(t *testing.T) {
	for _, x := range wrongTensors() {
		for _, how := range ways {
			for _, axis := range someAxes {
				for _, n := range []int{1, 2, 32} {
					call{how, x, axis, n, 1}.refused(t, api.ErrShape)
					call{how, x, axis, 1, n}.refused(t, api.ErrShape)
				}
			}
		}
	}
}

// TestNoSuchAxis: ErrArg, of rank 0 whatever the axis.
func TestNoSuchAxis(t *testing.T) {
	for _, x := range rightTensors() {
		for _, how := range ways {
			for _, axis := range someAxes {
				if axis >= 0 && axis < len(x.Shape) {
					continue
				}
				for _, n := range []int{1, 2, 32} {
					call{how, x, axis, n, 1}.refused(t, api.ErrArg)
					call{how, x, axis, 1, n}.refused(t, api.ErrArg)
				}
			}
		}
	}
}

// roomy makes a list with spare room that is full of n.
func roomy[T any](n T, l ...T) []T {
	r := slices.Grow(slices.Clone(l), 6)
	for i := range r[len(l):cap(r)] {
		r[len(l):cap(r)][i] = n
	}
	return r
}

// roomy is c by itself, its lists with spare room that is full of n.
func (c call) roomy(n int) call {
	c.x = api.Tensor{Shape: roomy(n, c.x.Shape...), Data: roomy(int64(n), c.x.Data...)}
	return c
}

// whole is x with all of its room.
func whole(x api.Tensor) api.Tensor {
	return api.Tensor{Shape: x.Shape[:cap(x.Shape)], Data: x.Data[:cap(x.Data)]}
}

// kept is a tensor by itself, all of its room included.
func kept(x api.Tensor) api.Tensor {
	x = whole(x)
	return api.Tensor{Shape: slices.Clone(x.Shape), Data: slices.Clone(x.Data)}
}

// overwrite writes over all of a tensor's room.
func overwrite(x api.Tensor) {
	x = whole(x)
	for i := range x.Shape {
		x.Shape[i] = -77
	}
	for i := range x.Data {
		x.Data[i] = -77
	}
}

// allCalls: some of each way along each axis of tensors of all shapes, and some that are refused.
func allCalls() []call {
	var l []call
	for _, how := range append([]int{0}, ways...) {
		for _, s := range slices.Concat(smallShapes, [][]int{{8, 8, 8, 8}, {32, 32, 32, 0}}) {
			for axis := range s {
				l = append(l, call{how, mixed(s...), axis, 1, 1}, call{how, mixed(s...), axis, 2, 1}, call{how, mixed(s...), axis, 3, 2}, call{how, mixed(s...), axis, 6, 6})
			}
			l = append(l, call{how, mixed(s...), 0, 0, 1}, call{how, mixed(s...), 0, 1, 33}, call{how, mixed(s...), len(s), 1, 1})
		}
		for _, x := range wrongTensors() {
			l = append(l, call{how, x, 0, 1, 1})
		}
	}
	return l
}

// TestHandedInIsKept: no call changes a list, its spare room included, be it refused or not (R2, R3).
func TestHandedInIsKept(t *testing.T) {
	for _, c := range allCalls() {
		r := c.roomy(7)
		want := kept(r.x)
		if got, why := r.do(); !alike(whole(r.x), want) {
			r.wrong(t, got, why, "left as it is")
		}
	}
}

// TestAnswersAreNew: writing over an answer, its spare room included, changes nothing that was handed in, and no other answer (R2).
func TestAnswersAreNew(t *testing.T) {
	for _, c := range allCalls() {
		r := c.roomy(7)
		want := kept(r.x)
		first, _ := r.do()
		next, why := r.do()
		asMade := kept(next)
		overwrite(first)
		if !alike(whole(r.x), want) || !alike(whole(next), asMade) {
			r.wrong(t, next, why, "memory of its own")
		}
		overwrite(next)
		if next, why = r.do(); !alike(kept(next), asMade) {
			r.wrong(t, next, why, asMade)
		}
	}
}

// TestNothingIsKept: writing over what was handed in changes no answer, and the next call answers the same (R2).
func TestNothingIsKept(t *testing.T) {
	for _, c := range allCalls() {
		r := c.roomy(7)
		got, why := r.do()
		overwrite(r.x)
		if want, wantWhy := c.do(); !alike(got, want) || why != wantWhy {
			c.wrong(t, got, why, want)
		}
	}
}

// TestSpareRoom: what lies behind a list does not change what is answered (R5).
func TestSpareRoom(t *testing.T) {
	for _, c := range allCalls() {
		want, wantWhy := c.do()
		for _, n := range []int{0, 1, 2, -1, math.MaxInt} {
			if got, why := c.roomy(n).do(); !alike(got, want) || why != wantWhy {
				c.wrong(t, got, why, want)
			}
		}
	}
	for _, how := range ways {
		call{how, api.Tensor{Shape: []int{2}, Data: roomy(int64(5), 1)}, 0, 2, 1}.refused(t, api.ErrShape)
		call{how, api.Tensor{Shape: roomy(2), Data: []int64{1, 2}}, 0, 1, 1}.refused(t, api.ErrShape)
		call{how, api.Tensor{Shape: roomy(1, 2), Data: []int64{1, 2}}, 1, 1, 1}.refused(t, api.ErrArg)
		call{how, api.Tensor{Shape: []int{2}, Data: roomy(int64(5), 1, 2)}, 0, 3, 1}.answered(t, of([]int{0}))
	}
}

// TestNilAndEmpty: they mean the same (R4).
func TestNilAndEmpty(t *testing.T) {
	for _, how := range ways {
		for _, s := range [][]int{nil, {}, roomy(9)} {
			call{how, of(s, 5), 0, 1, 1}.refused(t, api.ErrArg)
			call{how, of(s), 0, 1, 1}.refused(t, api.ErrShape)
		}
		for _, data := range [][]int64{nil, {}, roomy(int64(9))} {
			call{how, of([]int{0}, data...), 0, 1, 1}.answered(t, of([]int{0}))
			call{how, of([]int{2, 0}, data...), 0, 2, 1}.answered(t, of([]int{1, 0}))
			call{how, of([]int{2}, data...), 0, 1, 1}.refused(t, api.ErrShape)
		}
	}
}

// TestLongLists: calls end, of long lists too (R1).
func TestLongLists(t *testing.T) {
	const long = 1 << 20
	data := make([]int64, long)
	for _, n := range []int{0, 1, -1, math.MaxInt, math.MinInt} {
		l := slices.Repeat([]int{n}, long)
		for _, how := range ways {
			for _, axis := range []int{0, 1, long - 1, long, -1} {
				call{how, of(l, data...), axis, 1, 1}.refused(t, api.ErrShape)
				call{how, of([]int{2, 3}, data...), axis, 32, 32}.refused(t, api.ErrShape)
				call{how, of(l, data...), axis, 0, 1}.refused(t, api.ErrArg)
			}
		}
	}
}
