// Tests of P7.1, and of the rules R1 to R5 for the calls of dot.
package dot_test

import (
	"math"
	"math/big"
	"slices"
	"testing"

	"parquetry/api"
	"parquetry/dot"
)

const (
	great = math.MaxInt64
	least = math.MinInt64
)

// half is a length that, taken four times, goes round to 0.
const half = math.MaxInt/2 + 1

// far: numbers that are never how many axes are shared, such as would be some if they were cut short or went round.
var far = []int{-1, -2, -3, -4, -5, -32, 5, 6, 7, 32, 33, 255, 256, 257, -255, -256, 1 << 16, 1<<16 + 1, 1 << 32, 1<<32 + 1, -1 << 32, half, half + 1, -half, math.MaxInt - 2, math.MaxInt - 1, math.MaxInt, math.MinInt, math.MinInt + 1, math.MinInt + 2}

// numbers at the ends of their range, about 0, about where products go round, and some of which the lower half is 0.
var numbers = []int64{0, 1, -1, 2, -2, 3, -5, 7, 1 << 31, -1 << 31, 1 << 32, -1 << 32, 3037000499, 3037000500, -3037000500, 1 << 62, -1 << 62, great - 1, great, least + 1, least}

func of(s []int, l ...int64) api.Tensor { return api.Tensor{Shape: s, Data: l} }

// product multiplies, asking nothing of the program.
func product(s []int) int {
	n := 1
	for _, length := range s {
		n *= length
	}
	return n
}

// filled makes a tensor of s, its numbers told by their order.
func filled(tell func(i int) int64, s ...int) api.Tensor {
	t := api.Tensor{Shape: slices.Clone(s)}
	for i := range product(s) {
		t.Data = append(t.Data, tell(i))
	}
	return t
}

// mixed makes a tensor of s of small numbers and of those at the ends, others from each start.
func mixed(start int, s ...int) api.Tensor {
	return filled(func(i int) int64 {
		i += start
		if i%3 == 1 {
			return int64(i*5 - 40)
		}
		return numbers[(i*4+i/7+3)%len(numbers)]
	}, s...)
}

// odd makes a tensor of s of odd numbers alone, of which no product goes round to 0.
func odd(start int, s ...int) api.Tensor {
	return filled(func(i int) int64 { return int64(i+start)*0x5851f42d4c957f2c + int64(i%5)*2 - 3 }, s...)
}

// counted makes a tensor of s of which no number is like another.
func counted(start int, s ...int) api.Tensor {
	return filled(func(i int) int64 { return int64(start + i) }, s...)
}

func alike(a, b api.Tensor) bool {
	return slices.Equal(a.Shape, b.Shape) && slices.Equal(a.Data, b.Data)
}

// told tells whether Shape answers that, and no shape beside a refusal.
func told(t *testing.T, a, b []int, n int, want []int, why api.Errno) {
	t.Helper()
	got, gotWhy := dot.Shape(a, b, n)
	if gotWhy != why || !slices.Equal(got, want) {
		t.Errorf("Shape(%v, %v, %d): %v, %d, not %v, %d", a, b, n, got, int(gotWhy), want, int(why))
	}
}

// answered tells whether Do answers that tensor.
func answered(t *testing.T, a, b api.Tensor, n int, want api.Tensor) {
	t.Helper()
	got, why := dot.Do(a, b, n)
	if why != api.OK || !alike(got, want) {
		t.Errorf("Do(%v, %v, %d): %v, %d, not %v", a, b, n, got, int(why), want)
	}
}

// refused tells whether Do answers that refusal, and nothing beside it.
func refused(t *testing.T, a, b api.Tensor, n int, want api.Errno) {
	t.Helper()
	got, why := dot.Do(a, b, n)
	if why != want || len(got.Shape) != 0 || len(got.Data) != 0 {
		t.Errorf("Do of shapes %v, %v with %d and %d numbers, %d: %v, %d, not %d", a.Shape, b.Shape, len(a.Data), len(b.Data), n, got, int(why), int(want))
	}
}

// right is what layer 1 asks of a shape.
func right(s []int) bool {
	if len(s) > 4 {
		return false
	}
	for _, length := range s {
		if length < 0 || length > 32 {
			return false
		}
	}
	return product(s) <= 4096
}

// shapeOf is what the chapter says of Shape, read line by line.
func shapeOf(a, b []int, n int) ([]int, api.Errno) {
	if n < 0 || n >= len(a) || n >= len(b) {
		return nil, api.ErrArg
	}
	last := len(a) - 1
	if !right(a) || !right(b) || !slices.Equal(a[:n], b[:n]) || a[last] != b[n] {
		return nil, api.ErrShape
	}
	if s := slices.Concat(a[:last], b[n+1:]); right(s) {
		return s, api.OK
	}
	return nil, api.ErrShape
}

// round is the whole number n as 64 bits that go round.
func round(n *big.Int) int64 {
	return int64(new(big.Int).And(n, new(big.Int).SetUint64(math.MaxUint64)).Uint64())
}

// number is the one of t at a place.
func number(t api.Tensor, at ...int) *big.Int {
	i := 0
	for axis, place := range at {
		i = i*t.Shape[axis] + place
	}
	return big.NewInt(t.Data[i])
}

// eachPlace hands over each place of s, the last way first, in one list that is filled anew each time.
func eachPlace(s []int, look func(at []int)) {
	at := make([]int, len(s))
	for range product(s) {
		look(at)
		for axis := len(s) - 1; axis >= 0; axis-- {
			at[axis]++
			if at[axis] < s[axis] {
				break
			}
			at[axis] = 0
		}
	}
}

// multiplied is a by b, place by place, by numbers that do not go round till they are summed.
func multiplied(a, b api.Tensor, n int) api.Tensor {
	last := len(a.Shape) - 1
	want := api.Tensor{Shape: slices.Concat(a.Shape[:last], b.Shape[n+1:])}
	eachPlace(want.Shape, func(at []int) {
		sum := new(big.Int)
		for k := range a.Shape[last] {
			x := number(a, slices.Concat(at[:last], []int{k})...)
			y := number(b, slices.Concat(at[:n], []int{k}, at[last:])...)
			sum.Add(sum, x.Mul(x, y))
		}
		want.Data = append(want.Data, round(sum))
	})
	return want
}

// eachShape hands over each list of up to that many lengths, a new one each time.
func eachShape(rank int, lengths []int, look func(s []int)) {
	var fill func(s []int)
	fill = func(s []int) {
		look(slices.Clone(s))
		for _, length := range lengths {
			if len(s) < rank {
				fill(append(s, length))
			}
		}
	}
	fill(nil)
}

// pair: two shapes that share their first n axes.
type pair struct {
	a, b []int
	n    int
}

// somePairs: ones that may be multiplied, of each rank, with each number of shared axes, lengths of 0 and 1 among them.
var somePairs = []pair{
	{[]int{2}, []int{2}, 0}, {[]int{0}, []int{0}, 0}, {[]int{1}, []int{1}, 0}, {[]int{32}, []int{32}, 0},
	{[]int{3, 2}, []int{2}, 0}, {[]int{2}, []int{2, 4}, 0}, {[]int{3, 2}, []int{2, 4}, 0}, {[]int{2, 2}, []int{2, 2}, 0},
	{[]int{1, 3}, []int{3, 1}, 0}, {[]int{3, 1}, []int{1, 3}, 0}, {[]int{32, 32}, []int{32, 32}, 0},
	{[]int{3, 4, 2}, []int{2}, 0}, {[]int{2}, []int{2, 3, 4}, 0}, {[]int{3, 2}, []int{2, 4, 5}, 0}, {[]int{4, 5, 2}, []int{2, 3}, 0},
	{[]int{2, 3, 4}, []int{4, 3, 2}, 0}, {[]int{2, 3, 4, 5}, []int{5}, 0}, {[]int{5}, []int{5, 4, 3, 2}, 0},
	{[]int{3, 2}, []int{2, 3, 4, 5}, 0}, {[]int{2, 3, 4, 5}, []int{5, 2}, 0}, {[]int{2, 2, 2, 2}, []int{2, 2}, 0},
	{[]int{2, 3}, []int{2, 3}, 1}, {[]int{3, 3}, []int{3, 3}, 1}, {[]int{4, 3, 2}, []int{4, 2}, 1}, {[]int{4, 2}, []int{4, 2, 3}, 1},
	{[]int{5, 3, 2}, []int{5, 2, 4}, 1}, {[]int{2, 2, 2}, []int{2, 2, 2}, 1}, {[]int{4, 32, 8}, []int{4, 8, 32}, 1}, {[]int{1, 3, 2}, []int{1, 2, 4}, 1},
	{[]int{5, 2, 3, 4}, []int{5, 4}, 1}, {[]int{5, 4}, []int{5, 4, 3, 2}, 1}, {[]int{5, 2, 3, 4}, []int{5, 4, 2}, 1}, {[]int{3, 4, 2}, []int{3, 2, 4, 5}, 1},
	{[]int{2, 3, 4}, []int{2, 3, 4}, 2}, {[]int{2, 3, 5, 4}, []int{2, 3, 4}, 2}, {[]int{2, 3, 4}, []int{2, 3, 4, 5}, 2}, {[]int{2, 3, 5, 4}, []int{2, 3, 4, 6}, 2}, {[]int{2, 2, 2, 2}, []int{2, 2, 2, 2}, 2}, {[]int{8, 8, 8, 8}, []int{8, 8, 8, 8}, 2},
	{[]int{2, 3, 4, 5}, []int{2, 3, 4, 5}, 3}, {[]int{1, 1, 1, 1}, []int{1, 1, 1, 1}, 3}, {[]int{8, 8, 8, 8}, []int{8, 8, 8, 8}, 3}, {[]int{2, 2, 2, 2}, []int{2, 2, 2, 2}, 3},
	{[]int{0}, []int{0, 3}, 0}, {[]int{3, 0}, []int{0}, 0}, {[]int{3, 0}, []int{0, 2}, 0}, {[]int{0, 2}, []int{2, 3}, 0}, {[]int{2, 3}, []int{3, 0}, 0}, {[]int{0, 3}, []int{3, 0}, 0}, {[]int{0, 0}, []int{0, 0}, 0},
	{[]int{3, 0}, []int{3, 0}, 1}, {[]int{0, 3}, []int{0, 3}, 1}, {[]int{2, 3, 0}, []int{2, 0, 4}, 1}, {[]int{0, 3, 2}, []int{0, 2, 4}, 1}, {[]int{2, 0, 3}, []int{2, 3, 4}, 1}, {[]int{2, 3, 4}, []int{2, 4, 0}, 1},
	{[]int{2, 3, 4, 0}, []int{2, 3, 0, 5}, 2}, {[]int{2, 0, 4, 3}, []int{2, 0, 3, 5}, 2}, {[]int{2, 3, 4, 0}, []int{2, 3, 4, 0}, 3}, {[]int{0, 2, 3, 4}, []int{0, 2, 3, 4}, 3},
	{[]int{32, 32, 4, 0}, []int{32, 32, 4, 0}, 3}, {[]int{32, 32, 0, 2}, []int{2, 32}, 0}, {[]int{32, 32, 0}, []int{0, 4}, 0}, {[]int{0, 32, 32, 2}, []int{0, 2, 32}, 1}, {[]int{2, 32}, []int{32, 0, 32, 32}, 0},
}

// wrongPairs: ones that are as long where they are to be, of which a or b or both are not Right.
var wrongPairs = []pair{
	{[]int{33}, []int{33}, 0}, {[]int{-1}, []int{-1}, 0}, {[]int{math.MaxInt}, []int{math.MaxInt}, 0}, {[]int{math.MinInt}, []int{math.MinInt}, 0}, {[]int{half}, []int{half}, 0},
	{[]int{2, 33}, []int{33, 2}, 0}, {[]int{2, -1}, []int{-1, 2}, 0}, {[]int{0, 33}, []int{33, 0}, 0},
	{[]int{2, 33}, []int{2, 33}, 1}, {[]int{33, 2}, []int{33, 2}, 1}, {[]int{33, 0}, []int{33, 0}, 1}, {[]int{-1, 2}, []int{-1, 2}, 1}, {[]int{-1, -1}, []int{-1, -1}, 1},
	{[]int{2, 3, 33}, []int{2, 3, 33}, 2}, {[]int{2, 3, 4, -2}, []int{2, 3, 4, -2}, 3},
	// a alone.
	{[]int{33, 2}, []int{2}, 0}, {[]int{-1, 2}, []int{2}, 0}, {[]int{0, 33, 2}, []int{2}, 0},
	{[]int{32, 32, 5}, []int{5}, 0}, {[]int{32, 32, 32}, []int{32}, 0}, {[]int{4, 32, 32, 2}, []int{2}, 0}, {[]int{4, 4, 32, 32}, []int{4, 32}, 1}, {[]int{16, 16, 17}, []int{16, 17}, 1},
	{[]int{1, 1, 1, 1, 1}, []int{1}, 0}, {[]int{2, 2, 2, 2, 2}, []int{2}, 0}, {[]int{0, 0, 0, 0, 0}, []int{0}, 0}, {[]int{1, 1, 1, 1, 1}, []int{1, 1}, 1}, {[]int{1, 2, 1, 2, 3}, []int{1, 2, 1, 3}, 3},
	// b alone.
	{[]int{2}, []int{2, 33}, 0}, {[]int{2}, []int{2, -1}, 0}, {[]int{2}, []int{2, 33, 0}, 0},
	{[]int{5}, []int{5, 32, 32}, 0}, {[]int{32}, []int{32, 32, 32}, 0}, {[]int{2}, []int{2, 4, 32, 32}, 0}, {[]int{4, 4}, []int{4, 4, 32, 32}, 1}, {[]int{16, 17}, []int{16, 17, 16}, 1},
	{[]int{1}, []int{1, 1, 1, 1, 1}, 0}, {[]int{2}, []int{2, 2, 2, 2, 2}, 0}, {[]int{0}, []int{0, 0, 0, 0, 0}, 0}, {[]int{1, 1}, []int{1, 1, 1, 1, 1}, 1}, {[]int{1, 2, 1, 3}, []int{1, 2, 1, 3, 1}, 3},
	// Both, by their ranks.
	{[]int{1, 1, 1, 1, 1}, []int{1, 1, 1, 1, 1}, 4}, {[]int{1, 2, 1, 2, 1}, []int{1, 2, 1, 2, 1}, 4},
}

// tooGreatPairs: Right ones that are as long where they are to be, of which the answer's shape is not Right.
var tooGreatPairs = []pair{
	// By its rank.
	{[]int{2, 2, 2, 2}, []int{2, 2, 2, 2}, 0}, {[]int{1, 1, 1, 1}, []int{1, 1, 1, 1}, 0}, {[]int{1, 1, 1, 1}, []int{1, 1, 1}, 0}, {[]int{1, 1, 1}, []int{1, 1, 1, 1}, 0}, {[]int{0, 0, 0, 0}, []int{0, 0, 0}, 0}, {[]int{1, 1, 1, 0}, []int{0, 1, 1}, 0},
	{[]int{1, 1, 1, 1}, []int{1, 1, 1, 1}, 1}, {[]int{2, 2, 2, 2}, []int{2, 2, 2, 2}, 1}, {[]int{0, 2, 2, 2}, []int{0, 2, 2, 2}, 1},
	// By its elements.
	{[]int{32, 32, 2}, []int{2, 32}, 0}, {[]int{32, 32, 0}, []int{0, 32}, 0}, {[]int{32, 32, 4}, []int{4, 5}, 0}, {[]int{32, 32, 1}, []int{1, 5}, 0}, {[]int{32, 2}, []int{2, 32, 32}, 0}, {[]int{32, 0}, []int{0, 32, 32}, 0}, {[]int{5, 1}, []int{1, 32, 32}, 0},
	{[]int{32, 32, 32, 0}, []int{0}, 0}, {[]int{0}, []int{0, 32, 32, 32}, 0}, {[]int{32, 32, 5, 0}, []int{0}, 0}, {[]int{17, 16, 16, 0}, []int{0}, 0},
	{[]int{32, 32, 1}, []int{32, 1, 32}, 1}, {[]int{32, 32, 0}, []int{32, 0, 32}, 1}, {[]int{5, 32, 2}, []int{5, 2, 32}, 1}, {[]int{32, 0}, []int{32, 0, 32, 32}, 1}, {[]int{32, 32, 32, 0}, []int{32, 0}, 1},
	{[]int{4, 4, 32, 1}, []int{4, 4, 1, 32}, 2}, {[]int{32, 32, 0}, []int{32, 32, 0, 32}, 2}, {[]int{32, 32, 32, 0}, []int{32, 32, 0}, 2}, {[]int{32, 32, 32, 0}, []int{32, 32, 32, 0}, 3}, {[]int{16, 16, 17, 0}, []int{16, 16, 17, 0}, 3},
}

// unlikePairs: Right ones that are not as long where they are to be.
var unlikePairs = []pair{
	// a's last, b's n-th.
	{[]int{2}, []int{3}, 0}, {[]int{3}, []int{2}, 0}, {[]int{1}, []int{2}, 0}, {[]int{2}, []int{1}, 0}, {[]int{0}, []int{1}, 0}, {[]int{1}, []int{0}, 0},
	{[]int{2, 3}, []int{2, 3}, 0}, {[]int{3, 2}, []int{3, 2}, 0}, {[]int{2, 3}, []int{4, 3}, 0}, {[]int{2, 3}, []int{2}, 0}, {[]int{2}, []int{3, 2}, 0}, {[]int{32}, []int{32 - 1, 32}, 0},
	{[]int{5, 3}, []int{5, 2}, 1}, {[]int{5, 3}, []int{5, 4, 3}, 1}, {[]int{5, 3, 2}, []int{5, 3, 2}, 1}, {[]int{5, 2, 3}, []int{5, 2, 4}, 1}, {[]int{5, 3}, []int{5, 5}, 1}, {[]int{5, 5}, []int{5, 3}, 1},
	{[]int{2, 3, 4}, []int{2, 3, 5}, 2}, {[]int{2, 3, 5, 4}, []int{2, 3, 5, 4}, 2}, {[]int{2, 3, 4, 5}, []int{2, 3, 4, 4}, 3}, {[]int{2, 3, 4, 0}, []int{2, 3, 4, 5}, 3},
	// The first axes.
	{[]int{5, 3}, []int{4, 3}, 1}, {[]int{4, 3}, []int{5, 3}, 1}, {[]int{1, 3}, []int{5, 3}, 1}, {[]int{5, 3}, []int{1, 3}, 1}, {[]int{0, 3}, []int{1, 3}, 1}, {[]int{3, 5, 2}, []int{5, 2, 3}, 1}, {[]int{4, 3, 2}, []int{5, 2, 3}, 1},
	{[]int{2, 3, 4}, []int{3, 2, 4}, 2}, {[]int{2, 3, 4}, []int{2, 2, 4}, 2}, {[]int{2, 3, 4}, []int{3, 3, 4}, 2}, {[]int{2, 3, 4}, []int{6, 1, 4}, 2}, {[]int{1, 0, 4}, []int{0, 1, 4}, 2},
	{[]int{2, 3, 4, 5}, []int{1, 3, 4, 5}, 3}, {[]int{2, 3, 4, 5}, []int{2, 1, 4, 5}, 3}, {[]int{2, 3, 4, 5}, []int{2, 3, 1, 5}, 3}, {[]int{2, 3, 4, 5}, []int{4, 3, 2, 5}, 3},
	// Both, and what would come of them may not be either.
	{[]int{2, 3}, []int{4, 5}, 1}, {[]int{32, 32, 2}, []int{3, 32}, 0}, {[]int{1, 1, 1, 1}, []int{2, 1, 1, 1}, 0},
}

func TestShape(t *testing.T) {
	for _, c := range []struct {
		a, b []int
		n    int
		want []int
	}{
		{[]int{2}, []int{2}, 0, nil},
		{[]int{0}, []int{0}, 0, nil},
		{[]int{32}, []int{32}, 0, nil},
		{[]int{3, 2}, []int{2}, 0, []int{3}},
		{[]int{2}, []int{2, 4}, 0, []int{4}},
		{[]int{3, 2}, []int{2, 4}, 0, []int{3, 4}},
		{[]int{3, 4, 2}, []int{2}, 0, []int{3, 4}},
		{[]int{2}, []int{2, 3, 4}, 0, []int{3, 4}},
		{[]int{3, 4, 2}, []int{2, 5, 6}, 0, []int{3, 4, 5, 6}},
		{[]int{3, 4, 5, 2}, []int{2, 6}, 0, []int{3, 4, 5, 6}},
		{[]int{6, 2}, []int{2, 3, 4, 5}, 0, []int{6, 3, 4, 5}},
		{[]int{2}, []int{2, 3, 4, 5}, 0, []int{3, 4, 5}},
		{[]int{1, 1, 1, 1}, []int{1, 1}, 0, []int{1, 1, 1, 1}},
		{[]int{5, 2}, []int{5, 2}, 1, []int{5}},
		{[]int{5, 3, 2}, []int{5, 2}, 1, []int{5, 3}},
		{[]int{5, 2}, []int{5, 2, 4}, 1, []int{5, 4}},
		{[]int{5, 3, 2}, []int{5, 2, 4}, 1, []int{5, 3, 4}},
		{[]int{5, 3, 4, 2}, []int{5, 2, 6}, 1, []int{5, 3, 4, 6}},
		{[]int{5, 3, 2}, []int{5, 2, 4, 6}, 1, []int{5, 3, 4, 6}},
		{[]int{6, 5, 2}, []int{6, 5, 2}, 2, []int{6, 5}},
		{[]int{6, 5, 3, 2}, []int{6, 5, 2}, 2, []int{6, 5, 3}},
		{[]int{6, 5, 2}, []int{6, 5, 2, 4}, 2, []int{6, 5, 4}},
		{[]int{6, 5, 3, 2}, []int{6, 5, 2, 4}, 2, []int{6, 5, 3, 4}},
		{[]int{6, 5, 4, 2}, []int{6, 5, 4, 2}, 3, []int{6, 5, 4}},
		{[]int{0}, []int{0, 3}, 0, []int{3}},
		{[]int{3, 0}, []int{0, 2}, 0, []int{3, 2}},
		{[]int{0, 2}, []int{2, 0}, 0, []int{0, 0}},
		{[]int{32, 32, 4}, []int{4, 4}, 0, []int{32, 32, 4}},
		{[]int{32, 32, 0}, []int{0, 4}, 0, []int{32, 32, 4}},
		{[]int{32, 32, 4, 0}, []int{32, 32, 4, 0}, 3, []int{32, 32, 4}},
		{[]int{32, 32, 0, 2}, []int{2, 32}, 0, []int{32, 32, 0, 32}},
	} {
		told(t, c.a, c.b, c.n, c.want, api.OK)
	}
}

// TestShapeOfAll asks of all pairs of shapes of small lengths, with each number of shared axes.
func TestShapeOfAll(t *testing.T) {
	eachShape(4, []int{0, 1, 2}, func(a []int) {
		eachShape(4, []int{0, 1, 2}, func(b []int) {
			for n := -1; n <= 5; n++ {
				want, why := shapeOf(a, b, n)
				told(t, a, b, n, want, why)
			}
		})
	})
}

// TestShapeAboutTheLimits asks of all pairs of lists of lengths about them, Right and not.
func TestShapeAboutTheLimits(t *testing.T) {
	eachShape(3, []int{-1, 0, 2, 4, 5, 32, 33}, func(a []int) {
		eachShape(3, []int{-1, 0, 2, 4, 5, 32, 33}, func(b []int) {
			for n := range 4 {
				want, why := shapeOf(a, b, n)
				told(t, a, b, n, want, why)
			}
		})
	})
}

// TestShapeOfWrongN: ErrArg, be the shapes Right or not, and like one another or not: it is named first (R3).
func TestShapeOfWrongN(t *testing.T) {
	for _, p := range slices.Concat(somePairs, wrongPairs, tooGreatPairs, unlikePairs) {
		for _, n := range append(far, len(p.a), len(p.b), max(len(p.a), len(p.b))+1) {
			if n < 0 || n >= min(len(p.a), len(p.b)) {
				told(t, p.a, p.b, n, nil, api.ErrArg)
				told(t, p.b, p.a, n, nil, api.ErrArg)
			}
		}
	}
	for _, n := range append(far, 0, 1, 2, 3, 4) {
		for _, s := range [][]int{nil, {}, {2}, {33}, {-1}, {2, 3}, {1, 1, 1, 1, 1}} {
			told(t, nil, s, n, nil, api.ErrArg)
			told(t, s, nil, n, nil, api.ErrArg)
		}
	}
}

// TestShapeOfTooFewAxes: one of the two has more than n axes, the other as many.
func TestShapeOfTooFewAxes(t *testing.T) {
	for _, c := range []pair{
		{nil, []int{2}, 0}, {[]int{2}, nil, 0}, {[]int{2}, []int{2, 2}, 1}, {[]int{2, 2}, []int{2}, 1}, {[]int{2, 3}, []int{2, 3, 4}, 2}, {[]int{2, 3, 4}, []int{2, 3}, 2},
		{[]int{2, 3, 4}, []int{2, 3, 4, 4}, 3}, {[]int{2, 3, 4, 4}, []int{2, 3, 4}, 3}, {[]int{2, 3, 4, 5}, []int{2, 3, 4, 5}, 4}, {[]int{1}, []int{1, 1, 1, 1}, 2}, {[]int{1, 1, 1, 1}, []int{1}, 2},
		{[]int{33}, []int{33, 33}, 1}, {[]int{1, 1, 1, 1}, []int{1, 1, 1, 1, 1}, 4}, {[]int{1, 1, 1, 1, 1}, []int{1, 1, 1, 1, 1}, 5},
	} {
		told(t, c.a, c.b, c.n, nil, api.ErrArg)
	}
}

func TestShapeOfWrongShapes(t *testing.T) {
	for _, p := range wrongPairs {
		told(t, p.a, p.b, p.n, nil, api.ErrShape)
	}
}

func TestShapeOfUnlikeLengths(t *testing.T) {
	for _, p := range unlikePairs {
		told(t, p.a, p.b, p.n, nil, api.ErrShape)
	}
}

func TestShapeThatMayNotBe(t *testing.T) {
	for _, p := range tooGreatPairs {
		told(t, p.a, p.b, p.n, nil, api.ErrShape)
	}
}

// asLong tells whether p's shapes are as long where they are to be; of too few axes it panics.
func (p pair) asLong() bool {
	return slices.Equal(p.a[:p.n], p.b[:p.n]) && p.a[len(p.a)-1] == p.b[p.n]
}

// TestPairs: the lists of pairs hold what they are said to, so that each is refused for that reason alone, or for none.
func TestPairs(t *testing.T) {
	for _, c := range []struct {
		name                  string
		pairs                 []pair
		right, asLong, answer bool
	}{
		{"somePairs", somePairs, true, true, true},
		{"wrongPairs", wrongPairs, false, true, false},
		{"unlikePairs", unlikePairs, true, false, false},
		{"tooGreatPairs", tooGreatPairs, true, true, false},
	} {
		for _, p := range c.pairs {
			_, why := shapeOf(p.a, p.b, p.n)
			if (right(p.a) && right(p.b)) != c.right || p.asLong() != c.asLong || (why == api.OK) != c.answer {
				t.Errorf("%s: %v", c.name, p)
			}
		}
	}
}

func TestDo(t *testing.T) {
	x, y := of([]int{2, 3}, 1, 2, 3, 4, 5, 6), of([]int{3, 2}, 1, 0, -1, 2, 3, 1)
	z, w := of([]int{2, 2, 2}, 1, 2, 3, 4, 5, 6, 7, 8), of([]int{2, 2, 2}, 1, -1, 2, 0, 3, 1, 0, -2)
	for _, c := range []struct {
		a, b api.Tensor
		n    int
		want api.Tensor
	}{
		{of([]int{1}, 3), of([]int{1}, -5), 0, of(nil, -15)},
		{of([]int{2}, 1, 2), of([]int{2}, 3, 4), 0, of(nil, 11)},
		{of([]int{3}, 1, 2, 3), of([]int{3}, 5, 7, -11), 0, of(nil, -14)},
		{x, y, 0, of([]int{2, 2}, 8, 7, 17, 16)},
		{y, x, 0, of([]int{3, 3}, 1, 2, 3, 7, 8, 9, 7, 11, 15)},
		{x, of([]int{3}, 1, 10, 100), 0, of([]int{2}, 321, 654)},
		{of([]int{2}, 1, 10), x, 0, of([]int{3}, 41, 52, 63)},
		{of([]int{1, 2}, 1, 2), of([]int{2, 1}, 3, 4), 0, of([]int{1, 1}, 11)},
		{of([]int{2, 1}, 2, 3), of([]int{1, 2}, 5, 7), 0, of([]int{2, 2}, 10, 14, 15, 21)},
		{z, of([]int{2}, 1, 10), 0, of([]int{2, 2}, 21, 43, 65, 87)},
		{of([]int{2}, 1, 10), z, 0, of([]int{2, 2}, 51, 62, 73, 84)},
		{z, of([]int{2, 2}, 1, 0, 1, 1), 0, of([]int{2, 2, 2}, 3, 2, 7, 4, 11, 6, 15, 8)},
		{of([]int{2, 2}, 1, 0, 1, 1), z, 0, of([]int{2, 2, 2}, 1, 2, 3, 4, 6, 8, 10, 12)},
		{of([]int{1, 2, 2}, 1, 2, 3, 4), of([]int{2, 2, 1}, 1, 10, 100, 1000), 0, of([]int{1, 2, 2, 1}, 201, 2010, 403, 4030)},
		{x, of([]int{2, 3}, 1, 1, 1, 2, 2, 2), 1, of([]int{2}, 6, 30)},
		{z, of([]int{2, 2}, 1, 10, 100, 1000), 1, of([]int{2, 2}, 21, 43, 6500, 8700)},
		{of([]int{2, 2}, 1, 10, 100, 1000), z, 1, of([]int{2, 2}, 31, 42, 7500, 8600)},
		{z, w, 1, of([]int{2, 2, 2}, 5, -1, 11, -3, 15, -7, 21, -9)},
		{z, of([]int{2, 2, 1}, 1, 1, 2, 1), 1, of([]int{2, 2, 1}, 3, 7, 16, 22)},
		{z, w, 2, of([]int{2, 2}, -1, 6, 21, -16)},
		{z, of([]int{2, 2, 2, 1}, 1, -1, 2, 0, 3, 1, 0, -2), 2, of([]int{2, 2, 1}, -1, 6, 21, -16)},
		{of([]int{1, 2, 2, 1}, 2, 3, 5, 7), of([]int{1, 2, 1, 2}, 1, 10, 100, 1000), 2, of([]int{1, 2, 2, 2}, 2, 20, 3, 30, 500, 5000, 700, 7000)},
		{of([]int{1, 2, 1, 2}, 2, 3, 5, 7), of([]int{1, 2, 1, 2}, 1, 10, 100, 1000), 3, of([]int{1, 2, 1}, 32, 7500)},
	} {
		answered(t, c.a, c.b, c.n, c.want)
	}
}

// TestDoOfAll: tensors of all pairs of shapes.
func TestDoOfAll(t *testing.T) {
	for _, p := range somePairs {
		for _, tensor := range []func(start int, s ...int) api.Tensor{counted, mixed, odd} {
			a, b := tensor(2, p.a...), tensor(9, p.b...)
			answered(t, a, b, p.n, multiplied(a, b, p.n))
		}
	}
}

// TestDoOfSmallShapes: of all pairs of shapes of small lengths Do answers what the chapter says, and Shape's refusals.
func TestDoOfSmallShapes(t *testing.T) {
	eachShape(4, []int{0, 1, 2}, func(sa []int) {
		eachShape(4, []int{0, 1, 2}, func(sb []int) {
			a, b := mixed(1, sa...), odd(4, sb...)
			for n := range 5 {
				if _, why := shapeOf(sa, sb, n); why != api.OK {
					refused(t, a, b, n, why)
				} else {
					answered(t, a, b, n, multiplied(a, b, n))
				}
			}
		})
	})
}

// TestDoAsShape: what Do answers has the shape that Shape tells, and of Right tensors Do is refused as Shape is.
func TestDoAsShape(t *testing.T) {
	for _, p := range slices.Concat(somePairs, tooGreatPairs, unlikePairs) {
		for n := -2; n < 7; n++ {
			s, why := dot.Shape(p.a, p.b, n)
			got, doWhy := dot.Do(counted(1, p.a...), counted(1, p.b...), n)
			if doWhy != why || !slices.Equal(got.Shape, s) {
				t.Errorf("%v, %v, %d: Do %v, %d; Shape %v, %d", p.a, p.b, n, got.Shape, int(doWhy), s, int(why))
			}
		}
	}
}

// TestDoGoesRound: numbers at both ends, products and sums in 64 bits.
func TestDoGoesRound(t *testing.T) {
	for _, c := range []struct {
		a, b []int64
		want int64
	}{
		{[]int64{least}, []int64{-1}, least},
		{[]int64{least}, []int64{least}, 0},
		{[]int64{great}, []int64{great}, 1},
		{[]int64{great}, []int64{2}, -2},
		{[]int64{great}, []int64{least}, least},
		{[]int64{1 << 32}, []int64{1 << 32}, 0},
		{[]int64{1 << 32}, []int64{1 << 31}, least},
		{[]int64{3037000500}, []int64{3037000500}, -9223372036709301616},
		{[]int64{great, 1}, []int64{1, 1}, least},
		{[]int64{least, 1}, []int64{1, -1}, great},
		{[]int64{least, least}, []int64{1, 1}, 0},
		{[]int64{great, great}, []int64{1, 1}, -2},
		{[]int64{great, least}, []int64{1, 1}, -1},
		{[]int64{1 << 62, 1 << 62}, []int64{1, 1}, least},
		{[]int64{1 << 62, 1 << 62}, []int64{2, 2}, 0},
		{[]int64{great, great, great}, []int64{great, great, great}, 3},
		{[]int64{least, 5, great}, []int64{3, 7, -1}, 36},
	} {
		n := len(c.a)
		answered(t, of([]int{n}, c.a...), of([]int{n}, c.b...), 0, of(nil, c.want))
		answered(t, of([]int{n}, c.b...), of([]int{n}, c.a...), 0, of(nil, c.want))
		answered(t, of([]int{1, n}, c.a...), of([]int{1, n, 1}, c.b...), 1, of([]int{1, 1}, c.want))
	}
	for _, x := range numbers {
		for _, y := range numbers {
			a, b := of([]int{2}, x, y), of([]int{2}, y, x)
			answered(t, a, b, 0, multiplied(a, b, 0))
			a, b = of([]int{2, 1}, x, y), of([]int{1, 2}, y, x)
			answered(t, a, b, 0, multiplied(a, b, 0))
		}
	}
}

// TestAlongNoNumbers: 0 at each place of the answer.
func TestAlongNoNumbers(t *testing.T) {
	for _, c := range []struct {
		a, b []int
		n    int
		want api.Tensor
	}{
		{[]int{0}, []int{0}, 0, of(nil, 0)},
		{[]int{0}, []int{0, 2}, 0, of([]int{2}, 0, 0)},
		{[]int{2, 0}, []int{0}, 0, of([]int{2}, 0, 0)},
		{[]int{2, 0}, []int{0, 3}, 0, of([]int{2, 3}, 0, 0, 0, 0, 0, 0)},
		{[]int{3, 0}, []int{3, 0}, 1, of([]int{3}, 0, 0, 0)},
		{[]int{2, 1, 0}, []int{2, 0, 2}, 1, of([]int{2, 1, 2}, 0, 0, 0, 0)},
		{[]int{1, 2, 0}, []int{1, 2, 0}, 2, of([]int{1, 2}, 0, 0)},
		{[]int{1, 2, 1, 0}, []int{1, 2, 1, 0}, 3, of([]int{1, 2, 1}, 0, 0)},
		{[]int{32, 32, 4, 0}, []int{0}, 0, counted(0, 32, 32, 4)},
		{[]int{32, 32, 0}, []int{0, 4}, 0, counted(0, 32, 32, 4)},
		{[]int{32, 32, 4, 0}, []int{32, 32, 4, 0}, 3, counted(0, 32, 32, 4)},
	} {
		clear(c.want.Data)
		answered(t, of(c.a), of(c.b), c.n, c.want)
	}
}

// TestLengthsOf0ThatStay: an answer of their shape with no numbers, however great its other lengths.
func TestLengthsOf0ThatStay(t *testing.T) {
	for _, c := range []struct {
		a, b []int
		n    int
		want []int
	}{
		{[]int{0, 2}, []int{2}, 0, []int{0}},
		{[]int{2}, []int{2, 0}, 0, []int{0}},
		{[]int{0, 2}, []int{2, 3}, 0, []int{0, 3}},
		{[]int{3, 2}, []int{2, 0}, 0, []int{3, 0}},
		{[]int{0, 0}, []int{0, 0}, 0, []int{0, 0}},
		{[]int{0, 0}, []int{0, 0}, 1, []int{0}},
		{[]int{0, 3}, []int{0, 3}, 1, []int{0}},
		{[]int{0, 3, 2}, []int{0, 2, 4}, 1, []int{0, 3, 4}},
		{[]int{5, 0, 2}, []int{5, 2, 4}, 1, []int{5, 0, 4}},
		{[]int{5, 3, 2}, []int{5, 2, 0}, 1, []int{5, 3, 0}},
		{[]int{5, 3, 0}, []int{5, 0, 0}, 1, []int{5, 3, 0}},
		{[]int{2, 0, 3}, []int{2, 0, 3}, 2, []int{2, 0}},
		{[]int{2, 2, 0, 3}, []int{2, 2, 0, 3}, 3, []int{2, 2, 0}},
		{[]int{0, 2, 2}, []int{2, 2, 2}, 0, []int{0, 2, 2, 2}},
		{[]int{32, 32, 0, 2}, []int{2, 32}, 0, []int{32, 32, 0, 32}},
		{[]int{32, 2}, []int{2, 32, 32, 0}, 0, []int{32, 32, 32, 0}},
		{[]int{0, 32, 32, 2}, []int{0, 2, 32}, 1, []int{0, 32, 32, 32}},
		{[]int{32, 32, 32, 0}, []int{32, 0, 0}, 1, []int{32, 32, 32, 0}},
	} {
		answered(t, counted(1, c.a...), counted(1, c.b...), c.n, of(c.want))
	}
}

// TestGreatestTensors: as many numbers as there may be, in what is multiplied and in what comes of it.
func TestGreatestTensors(t *testing.T) {
	for _, p := range []pair{
		{[]int{32, 32, 4}, []int{4, 4}, 0}, {[]int{4, 4}, []int{4, 32, 32}, 0}, {[]int{4, 32, 32}, []int{32, 32}, 0}, {[]int{16, 16, 16}, []int{16, 16}, 0},
		{[]int{32, 4, 32}, []int{32, 32, 4}, 1}, {[]int{8, 8, 8, 8}, []int{8, 8}, 0}, {[]int{8, 8, 8, 8}, []int{8, 8, 8}, 1}, {[]int{8, 8, 8, 8}, []int{8, 8, 8, 8}, 2}, {[]int{8, 8, 8, 8}, []int{8, 8, 8, 8}, 3},
	} {
		a, b := odd(3, p.a...), odd(5, p.b...)
		answered(t, a, b, p.n, multiplied(a, b, p.n))
	}
}

// wrongTensors: shapes that may not be, with as many numbers as they ask or none, and shapes that may be, with too few numbers or too many.
func wrongTensors() []api.Tensor {
	return []api.Tensor{
		{},
		of(nil, 1, 2),
		of([]int{2}),
		of([]int{2}, 1),
		of([]int{2}, 1, 2, 3),
		of([]int{0}, 1),
		of([]int{2, 2}, 1, 2, 3),
		of([]int{2, 3}, 1, 2, 3, 4, 5, 6, 7),
		of([]int{2, 3}),
		{Shape: []int{32, 32, 4}, Data: make([]int64, api.MaxElems-1)},
		{Shape: []int{32, 32, 4}, Data: make([]int64, api.MaxElems+1)},
		counted(1, 1, 1, 1, 1, 1),
		counted(1, 0, 0, 0, 0, 0),
		counted(1, 33),
		counted(1, 1, 33),
		counted(1, 0, 33),
		counted(1, 8, 27, 19),
		counted(1, 32, 32, 5),
		of([]int{-1}),
		of([]int{-1}, 1),
		of([]int{-1, -1}, 1),
		of([]int{-2, -3}, 1, 2, 3, 4, 5, 6),
		of([]int{0, -1}),
		of([]int{math.MaxInt}, 1),
		of([]int{math.MinInt}),
		of([]int{half, 4}),
		of([]int{half, 2, 2, 1}),
	}
}

// TestWrongTensors: ErrShape, be n one that may be or not: it is named first (R3).
func TestWrongTensors(t *testing.T) {
	others := append(wrongTensors(), of(nil, 7), of([]int{0}), counted(1, 2), counted(1, 2, 3), counted(1, 3, 2), counted(1, 2, 2, 2), counted(1, 8, 8, 8, 8))
	for _, x := range wrongTensors() {
		for _, y := range others {
			for _, n := range append(far, 0, 1, 2, 3, 4) {
				refused(t, x, y, n, api.ErrShape)
				refused(t, y, x, n, api.ErrShape)
			}
		}
	}
}

// TestOneNumberTooFew: ErrShape, of pairs that would be multiplied but for one number more or less, in a or in b alone.
func TestOneNumberTooFew(t *testing.T) {
	for _, p := range somePairs {
		a, b := counted(1, p.a...), counted(1, p.b...)
		refused(t, of(p.a, append(a.Data, 1)...), b, p.n, api.ErrShape)
		refused(t, a, of(p.b, append(b.Data, 1)...), p.n, api.ErrShape)
		if len(a.Data) > 0 {
			refused(t, of(p.a, a.Data[1:]...), b, p.n, api.ErrShape)
		}
		if len(b.Data) > 0 {
			refused(t, a, of(p.b, b.Data[1:]...), p.n, api.ErrShape)
		}
	}
}

// TestDoOfWrongShapes: ErrShape, with as many numbers as the lengths ask, or none.
func TestDoOfWrongShapes(t *testing.T) {
	for _, p := range wrongPairs {
		refused(t, of(p.a), of(p.b), p.n, api.ErrShape)
		if lengths := slices.Concat(p.a, p.b); slices.Min(lengths) >= 0 && slices.Max(lengths) <= 33 {
			refused(t, counted(1, p.a...), counted(1, p.b...), p.n, api.ErrShape)
		}
	}
}

// TestDoOfWrongN: ErrArg of Right tensors, be their lengths alike or not, and what would come of them Right or not (R3).
func TestDoOfWrongN(t *testing.T) {
	for _, p := range slices.Concat(somePairs, tooGreatPairs, unlikePairs) {
		a, b := counted(1, p.a...), counted(1, p.b...)
		for _, n := range append(far, len(p.a), len(p.b), max(len(p.a), len(p.b))+1) {
			if n < 0 || n >= min(len(p.a), len(p.b)) {
				refused(t, a, b, n, api.ErrArg)
				refused(t, b, a, n, api.ErrArg)
			}
		}
	}
}

// TestOfRank0: ErrArg, of any n and any tensor that is Right.
func TestOfRank0(t *testing.T) {
	for _, n := range append(far, 0, 1, 2, 3, 4) {
		for _, x := range []api.Tensor{of(nil, 7), of([]int{}, 7), of([]int{0}), counted(1, 1), counted(1, 2, 3), counted(1, 1, 1, 1, 1)} {
			refused(t, of(nil, 5), x, n, api.ErrArg)
			refused(t, x, of(nil, 5), n, api.ErrArg)
		}
	}
}

func TestDoOfUnlikeLengths(t *testing.T) {
	for _, p := range unlikePairs {
		refused(t, counted(1, p.a...), counted(1, p.b...), p.n, api.ErrShape)
	}
}

func TestDoThatMayNotBe(t *testing.T) {
	for _, p := range tooGreatPairs {
		refused(t, counted(1, p.a...), counted(1, p.b...), p.n, api.ErrShape)
	}
}

// roomy makes a list with spare room that is full of n.
func roomy[T any](n T, l ...T) []T {
	r := slices.Grow(slices.Clone(l), 6)
	for i := range r[len(l):cap(r)] {
		r[len(l):cap(r)][i] = n
	}
	return r
}

// overwrite writes over all of a list's room.
func overwrite[T int | int64](l []T) {
	l = l[:cap(l)]
	for i := range l {
		l[i] = -77
	}
}

// given is what a call is handed.
type given struct {
	a, b api.Tensor
	n    int
}

// lists are all lists of g, with all of their room.
func (g given) lists() ([][]int, [][]int64) {
	return [][]int{g.a.Shape[:cap(g.a.Shape)], g.b.Shape[:cap(g.b.Shape)]}, [][]int64{g.a.Data[:cap(g.a.Data)], g.b.Data[:cap(g.b.Data)]}
}

// roomy is g by itself, its lists with spare room that is full of n.
func (g given) roomy(n int) given {
	return given{
		api.Tensor{Shape: roomy(n, g.a.Shape...), Data: roomy(int64(n), g.a.Data...)},
		api.Tensor{Shape: roomy(n, g.b.Shape...), Data: roomy(int64(n), g.b.Data...)},
		g.n,
	}
}

// unchanged tells whether all of g's room holds what that of want does.
func (g given) unchanged(want given) bool {
	shapes, data := g.lists()
	wantShapes, wantData := want.lists()
	return slices.EqualFunc(shapes, wantShapes, slices.Equal) && slices.EqualFunc(data, wantData, slices.Equal)
}

// answer is what Shape and Do answer.
type answer struct {
	shape         []int
	t             api.Tensor
	shapeWhy, why api.Errno
}

func (g given) answer() answer {
	var a answer
	a.shape, a.shapeWhy = dot.Shape(g.a.Shape, g.b.Shape, g.n)
	a.t, a.why = dot.Do(g.a, g.b, g.n)
	return a
}

// kept is a by itself, all of its room included.
func (a answer) kept() answer {
	a.shape = slices.Clone(a.shape[:cap(a.shape)])
	a.t = api.Tensor{Shape: slices.Clone(a.t.Shape[:cap(a.t.Shape)]), Data: slices.Clone(a.t.Data[:cap(a.t.Data)])}
	return a
}

func (a answer) same(b answer) bool {
	return slices.Equal(a.shape, b.shape) && a.shapeWhy == b.shapeWhy && alike(a.t, b.t) && a.why == b.why
}

// overwrite writes over all that a answers.
func (a answer) overwrite() {
	overwrite(a.shape)
	overwrite(a.t.Shape)
	overwrite(a.t.Data)
}

// allGiven: tensors of all pairs of shapes, and what is refused.
func allGiven() []given {
	var l []given
	for _, p := range slices.Concat(somePairs, tooGreatPairs, unlikePairs) {
		l = append(l, given{mixed(1, p.a...), odd(2, p.b...), p.n})
	}
	for _, x := range wrongTensors() {
		l = append(l, given{x, counted(1, 2, 2), 0}, given{counted(1, 2, 2), x, 1}, given{x, x, 0})
	}
	return append(l, given{counted(1, 2), counted(1, 2), -1}, given{counted(1, 2, 2), counted(1, 2, 2), math.MaxInt})
}

// TestHandedInIsKept: no call changes a list, its spare room included, be it refused or not (R2, R3).
func TestHandedInIsKept(t *testing.T) {
	for _, g := range allGiven() {
		r, want := g.roomy(7), g.roomy(7)
		r.answer()
		if !r.unchanged(want) {
			t.Errorf("%v, %v, %d: changed", g.a.Shape, g.b.Shape, g.n)
		}
	}
}

// TestAnswersAreNew: writing over an answer, its spare room included, changes nothing that was handed in, and no other answer (R2).
func TestAnswersAreNew(t *testing.T) {
	for _, g := range allGiven() {
		r, want := g.roomy(7), g.roomy(7)
		first, next := r.answer(), r.answer()
		asMade := next.kept()
		first.overwrite()
		if !r.unchanged(want) {
			t.Errorf("%v, %v, %d: an answer shares their memory", g.a.Shape, g.b.Shape, g.n)
		}
		if !next.kept().same(asMade) {
			t.Errorf("%v, %v, %d: two answers share memory", g.a.Shape, g.b.Shape, g.n)
		}
		next = r.answer()
		if next.overwrite(); !r.answer().same(g.answer()) {
			t.Errorf("%v, %v, %d: an answer that was written over changes the next one", g.a.Shape, g.b.Shape, g.n)
		}
	}
}

// TestNothingIsKept: writing over what was handed in changes no answer, and the next call answers the same (R2).
func TestNothingIsKept(t *testing.T) {
	for _, g := range allGiven() {
		r := g.roomy(7)
		got := r.answer()
		shapes, data := r.lists()
		for _, l := range shapes {
			overwrite(l)
		}
		for _, l := range data {
			overwrite(l)
		}
		if !got.same(g.answer()) {
			t.Errorf("%v, %v, %d: an answer changes with what was handed in", g.a.Shape, g.b.Shape, g.n)
		}
	}
}

// TestSpareRoom: what lies behind a list does not change what is answered (R5).
func TestSpareRoom(t *testing.T) {
	for _, g := range allGiven() {
		want := g.answer()
		for _, n := range []int{0, 1, 2, 3, -1, math.MaxInt} {
			if got := g.roomy(n).answer(); !got.same(want) {
				t.Errorf("%v, %v, %d, spare room of %d: %v", g.a.Shape, g.b.Shape, g.n, n, got)
			}
		}
	}
	x := of([]int{2}, 1, 2)
	refused(t, api.Tensor{Shape: []int{2}, Data: roomy(int64(5), 1)}, x, 0, api.ErrShape)
	refused(t, x, api.Tensor{Shape: []int{2}, Data: roomy(int64(5), 1)}, 0, api.ErrShape)
	refused(t, api.Tensor{Shape: roomy(2), Data: []int64{1}}, x, 0, api.ErrArg)
	told(t, roomy(2), []int{2}, 0, nil, api.ErrArg)
	told(t, []int{2}, roomy(2), 0, nil, api.ErrArg)
	told(t, roomy(2, 2), roomy(2, 2), 1, nil, api.ErrArg)
}

// TestSharedMemory: a and b may be one tensor, or share memory.
func TestSharedMemory(t *testing.T) {
	x := counted(1, 2, 2)
	answered(t, x, x, 0, of([]int{2, 2}, 7, 10, 15, 22))
	answered(t, x, x, 1, of([]int{2}, 5, 25))
	l, data := []int{3, 2, 4, 9}, []int64{1, 2, 3, 4, 5, 6, 7, 8, 9}
	told(t, l[:2], l[1:3], 0, []int{3, 4}, api.OK)
	a, b := api.Tensor{Shape: l[:2], Data: data[:6]}, api.Tensor{Shape: l[1:3], Data: data[1:]}
	answered(t, a, b, 0, of([]int{3, 4}, 14, 17, 20, 23, 30, 37, 44, 51, 46, 57, 68, 79))
	if !slices.Equal(l, []int{3, 2, 4, 9}) || !slices.Equal(data, []int64{1, 2, 3, 4, 5, 6, 7, 8, 9}) {
		t.Errorf("changed: %v, %v", l, data)
	}
}

// TestNilAndEmpty: they mean the same (R4).
func TestNilAndEmpty(t *testing.T) {
	for _, none := range [][]int{nil, {}, roomy(9)} {
		for _, more := range [][]int{nil, {}, roomy(9)} {
			told(t, none, more, 0, nil, api.ErrArg)
			refused(t, of(none, 5), of(more, 5), 0, api.ErrArg)
			refused(t, of(none), of(more), 0, api.ErrShape)
		}
	}
	for _, data := range [][]int64{nil, {}, roomy(int64(9))} {
		for _, more := range [][]int64{nil, {}, roomy(int64(9))} {
			answered(t, of([]int{0}, data...), of([]int{0}, more...), 0, of(nil, 0))
			answered(t, of([]int{0, 2}, data...), of([]int{2, 0}, more...), 0, of([]int{0, 0}))
		}
	}
}

// TestLongLists: calls end, of long lists too (R1).
func TestLongLists(t *testing.T) {
	const long = 1 << 20
	data := make([]int64, long)
	for _, k := range []int{0, 1, -1, math.MaxInt, math.MinInt} {
		l := slices.Repeat([]int{k}, long)
		for _, n := range []int{0, 1, 3, 4, 5, long - 1} {
			told(t, l, l, n, nil, api.ErrShape)
		}
		for _, n := range []int{-1, long, long + 1, math.MaxInt, math.MinInt} {
			told(t, l, l, n, nil, api.ErrArg)
		}
		told(t, l, []int{k}, 0, nil, api.ErrShape)
		told(t, []int{k}, l, 0, nil, api.ErrShape)
		told(t, l, []int{k}, 1, nil, api.ErrArg)
		for _, n := range []int{0, 1, -1, long, math.MaxInt} {
			refused(t, of(l, data...), of(l, data...), n, api.ErrShape)
			refused(t, of(l, data...), counted(1, 2), n, api.ErrShape)
			refused(t, counted(1, 2), of([]int{2}, data...), n, api.ErrShape)
		}
	}
}
