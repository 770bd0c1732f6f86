// Tests of P5.1 and P5.2, and of the rules R1 to R5 for the calls of axes.
package axes_test

import (
	"math"
	"slices"
	"testing"

	"parquetry/api"
	"parquetry/axes"
)

// half is a number that, taken four times, goes round to 0.
const half = math.MaxInt/2 + 1

// far: numbers that are no axis and no length, such as would be one if they were cut short or their sum went round.
var far = []int{-1, -2, -32, -33, 33, 34, 64, 1 << 32, 1<<32 + 1, -1 << 32, half, -half, math.MaxInt - 1, math.MaxInt, math.MinInt, math.MinInt + 1}

func of(s []int, l ...int64) api.Tensor { return api.Tensor{Shape: s, Data: l} }

// product multiplies, asking nothing of the program.
func product(s []int) int {
	n := 1
	for _, length := range s {
		n *= length
	}
	return n
}

// counted makes a tensor of s of which no number is like another, nor like a small one.
func counted(s ...int) api.Tensor { return countedFrom(1001, s...) }

func countedFrom(n int, s ...int) api.Tensor {
	t := api.Tensor{Shape: slices.Clone(s)}
	for i := range product(s) {
		t.Data = append(t.Data, int64(n+i))
	}
	return t
}

// row is the list n, n + 1 and on.
func row(n int64, many int) []int64 {
	l := make([]int64, many)
	for i := range l {
		l[i] = n + int64(i)
	}
	return l
}

func alike(a, b api.Tensor) bool {
	return slices.Equal(a.Shape, b.Shape) && slices.Equal(a.Data, b.Data)
}

func nothing(t api.Tensor) bool { return len(t.Shape) == 0 && len(t.Data) == 0 }

// eachPlace hands over each place of s, the last way first, in one list that is filled anew each time.
func eachPlace(s []int, look func(at []int)) {
	at := make([]int, len(s))
	for range product(s) {
		look(at)
		for axis := len(s) - 1; axis >= 0; axis-- {
			at[axis]++
			if at[axis] < s[axis] {
				break
			}
			at[axis] = 0
		}
	}
}

// number is the one of t at a place that it has.
func number(t api.Tensor, at []int) int64 {
	i := 0
	for axis, place := range at {
		i = i*t.Shape[axis] + place
	}
	return t.Data[i]
}

// built makes a tensor of s, each number as told for its place.
func built(s []int, tell func(at []int) int64) api.Tensor {
	t := api.Tensor{Shape: slices.Clone(s)}
	eachPlace(s, func(at []int) { t.Data = append(t.Data, tell(at)) })
	return t
}

// eachList hands over each list of n of the numbers, a new one each time.
func eachList(n int, numbers []int, look func(l []int)) {
	l := make([]int, n)
	var fill func(i int)
	fill = func(i int) {
		if i == n {
			look(slices.Clone(l))
			return
		}
		for _, k := range numbers {
			l[i] = k
			fill(i + 1)
		}
	}
	fill(0)
}

// upTo is the list 0, 1 and on, n numbers.
func upTo(n int) []int {
	l := make([]int, n)
	for i := range l {
		l[i] = i
	}
	return l
}

// put is l with n in place i.
func put(l []int, i, n int) []int {
	l = slices.Clone(l)
	l[i] = n
	return l
}

// rightShape is P1.1's Right, asking nothing of the program.
func rightShape(s []int) bool {
	for _, length := range s {
		if length < 0 || length > 32 {
			return false
		}
	}
	return len(s) <= 4 && product(s) <= 4096
}

// someShapes: ones of each rank, lengths of 0 and 1 among them.
var someShapes = [][]int{
	nil, {0}, {1}, {5}, {32},
	{2, 3}, {3, 2}, {1, 4}, {0, 3}, {3, 0}, {0, 0}, {3, 3}, {1, 1}, {32, 32},
	{2, 3, 4}, {4, 1, 2}, {2, 0, 3}, {2, 2, 2}, {32, 4, 32},
	{2, 3, 4, 5}, {3, 1, 2, 2}, {2, 3, 0, 4}, {1, 1, 1, 1}, {8, 8, 8, 8}, {32, 32, 32, 0},
}

// wrongTensors: shapes that may not be, with as many numbers as they ask or none, and shapes that may be, with too few numbers or too many.
func wrongTensors() []api.Tensor {
	return []api.Tensor{
		{},
		of(nil, 1, 2),
		of([]int{2}),
		of([]int{2}, 1),
		of([]int{2}, 1, 2, 3),
		of([]int{0}, 1),
		of([]int{2, 2}, 1, 2, 3),
		of([]int{2, 3}, 1, 2, 3, 4, 5, 6, 7),
		of([]int{2, 3}),
		{Shape: []int{32, 32, 4}, Data: row(1, 4095)},
		{Shape: []int{32, 32, 4}, Data: row(1, 4097)},
		counted(1, 1, 1, 1, 1),
		counted(0, 0, 0, 0, 0),
		counted(33),
		counted(1, 33),
		counted(0, 33),
		counted(8, 27, 19),
		counted(32, 32, 5),
		of([]int{-1}),
		of([]int{-1}, 1),
		of([]int{-1, -1}, 1),
		of([]int{-2, -3}, 1, 2, 3, 4, 5, 6),
		of([]int{0, -1}),
		of([]int{math.MaxInt}, 1),
		of([]int{math.MinInt}),
		of([]int{half, 4}),
		of([]int{half, 2, 2, 1}),
	}
}

// answered tells whether a call answers that tensor.
func answered(t *testing.T, got api.Tensor, why api.Errno, want api.Tensor, name string, about ...any) {
	t.Helper()
	if why != api.OK || !alike(got, want) {
		t.Errorf("%s %v: %v, %d, not %v", name, about, got, int(why), want)
	}
}

// refused tells whether a call answers that refusal, and nothing beside it.
func refused(t *testing.T, got api.Tensor, why, want api.Errno, name string, about ...any) {
	t.Helper()
	if why != want || !nothing(got) {
		t.Errorf("%s %v: %v, %d, not %d", name, about, got, int(why), int(want))
	}
}

func TestTurn(t *testing.T) {
	x := of([]int{2, 3}, 1, 2, 3, 4, 5, 6)
	y := of([]int{2, 1, 3}, 1, 2, 3, 4, 5, 6)
	z := of([]int{2, 2, 2}, 1, 2, 3, 4, 5, 6, 7, 8)
	for _, c := range []struct {
		x    api.Tensor
		a    []int
		want api.Tensor
	}{
		{x, []int{1, 0}, of([]int{3, 2}, 1, 4, 2, 5, 3, 6)},
		{x, []int{0, 1}, x},
		{y, []int{2, 0, 1}, of([]int{3, 2, 1}, 1, 4, 2, 5, 3, 6)},
		{y, []int{1, 2, 0}, of([]int{1, 3, 2}, 1, 4, 2, 5, 3, 6)},
		{y, []int{1, 0, 2}, of([]int{1, 2, 3}, 1, 2, 3, 4, 5, 6)},
		// The two ways round differ here: axis 0 of the answer is the axis 1 of what is turned, not the other way about.
		{z, []int{1, 2, 0}, of([]int{2, 2, 2}, 1, 5, 2, 6, 3, 7, 4, 8)},
		{z, []int{2, 0, 1}, of([]int{2, 2, 2}, 1, 3, 5, 7, 2, 4, 6, 8)},
		{z, []int{2, 1, 0}, of([]int{2, 2, 2}, 1, 5, 3, 7, 2, 6, 4, 8)},
		{of(nil, 5), nil, of(nil, 5)},
		{of([]int{3}, 7, 8, 9), []int{0}, of([]int{3}, 7, 8, 9)},
		{of([]int{0, 3}), []int{1, 0}, of([]int{3, 0})},
		{of([]int{2, 0, 3}), []int{2, 0, 1}, of([]int{3, 2, 0})},
		{of([]int{0}), []int{0}, of([]int{0})},
	} {
		got, why := axes.Turn(c.x, c.a)
		answered(t, got, why, c.want, "Turn", c.x, c.a)
	}
}

// TestTurnOfAll: of all lists about a tensor's axes, those that have each once turn each to its place, and the others are refused.
func TestTurnOfAll(t *testing.T) {
	for _, s := range someShapes {
		x := counted(s...)
		for n := range 6 {
			eachList(n, append([]int{-1}, upTo(len(s)+1)...), func(a []int) {
				got, why := axes.Turn(x, a)
				sorted := slices.Sorted(slices.Values(a))
				if !slices.Equal(sorted, upTo(len(s))) {
					refused(t, got, why, api.ErrArg, "Turn", s, a)
					return
				}
				turned := make([]int, n)
				for i, axis := range a {
					turned[i] = s[axis]
				}
				want := built(turned, func(at []int) int64 {
					source := make([]int, n)
					for i, axis := range a {
						source[axis] = at[i]
					}
					return number(x, source)
				})
				answered(t, got, why, want, "Turn", s, a)
			})
		}
	}
}

func TestTurnOfNoAxes(t *testing.T) {
	for _, s := range someShapes {
		x := counted(s...)
		for _, n := range append(far, len(s)) {
			got, why := axes.Turn(x, append(upTo(len(s)), n))
			refused(t, got, why, api.ErrArg, "Turn", s, "and beyond", n)
			for i := range s {
				a := put(upTo(len(s)), i, n)
				got, why := axes.Turn(x, a)
				refused(t, got, why, api.ErrArg, "Turn", s, a)
			}
		}
	}
}

func TestSpread(t *testing.T) {
	two, six := of([]int{2}, 1, 2), of([]int{2, 3}, 1, 2, 3, 4, 5, 6)
	for _, c := range []struct {
		x    api.Tensor
		s, a []int
		want api.Tensor
	}{
		{two, []int{3, 2}, []int{1}, of([]int{3, 2}, 1, 2, 1, 2, 1, 2)},
		{two, []int{2, 3}, []int{0}, of([]int{2, 3}, 1, 1, 1, 2, 2, 2)},
		{two, []int{2, 2}, []int{0}, of([]int{2, 2}, 1, 1, 2, 2)},
		{two, []int{2, 2}, []int{1}, of([]int{2, 2}, 1, 2, 1, 2)},
		{two, []int{2, 2, 2}, []int{1}, of([]int{2, 2, 2}, 1, 1, 2, 2, 1, 1, 2, 2)},
		{two, []int{2}, []int{0}, two},
		{six, []int{2, 2, 3}, []int{0, 2}, of([]int{2, 2, 3}, 1, 2, 3, 1, 2, 3, 4, 5, 6, 4, 5, 6)},
		{six, []int{2, 2, 3}, []int{1, 2}, of([]int{2, 2, 3}, 1, 2, 3, 4, 5, 6, 1, 2, 3, 4, 5, 6)},
		{six, []int{2, 3, 2}, []int{0, 1}, of([]int{2, 3, 2}, 1, 1, 2, 2, 3, 3, 4, 4, 5, 5, 6, 6)},
		{six, []int{2, 3}, []int{0, 1}, six},
		{of(nil, 7), []int{3}, nil, of([]int{3}, 7, 7, 7)},
		{of(nil, 7), []int{2, 2}, nil, of([]int{2, 2}, 7, 7, 7, 7)},
		{of(nil, 7), nil, nil, of(nil, 7)},
		{of(nil, 7), []int{2, 0}, nil, of([]int{2, 0})},
		{of([]int{1}, 7), []int{0, 1}, []int{1}, of([]int{0, 1})},
		{of([]int{0}), []int{3, 0}, []int{1}, of([]int{3, 0})},
		{of([]int{0}), []int{0, 3}, []int{0}, of([]int{0, 3})},
	} {
		got, why := axes.Spread(c.x, c.s, c.a)
		answered(t, got, why, c.want, "Spread", c.x, c.s, c.a)
	}
}

// TestSpreadOfRank0: a Fill of whatever shape may be.
func TestSpreadOfRank0(t *testing.T) {
	for _, s := range someShapes {
		for _, n := range []int64{0, -1, 7, math.MaxInt64, math.MinInt64} {
			got, why := axes.Spread(of(nil, n), s, nil)
			answered(t, got, why, api.Tensor{Shape: s, Data: slices.Repeat([]int64{n}, product(s))}, "Spread", n, s)
		}
	}
}

// fitting tells, by the chapter's words, whether a has one axis of s for each of own, rising, as long.
func fitting(own, s, a []int) bool {
	if len(a) != len(own) {
		return false
	}
	for i, axis := range a {
		if axis < 0 || axis >= len(s) || s[axis] != own[i] || i > 0 && axis <= a[i-1] {
			return false
		}
	}
	return true
}

// TestSpreadOfAll asks all lists about a shape's axes, of tensors that fit some and of ones that fit none.
func TestSpreadOfAll(t *testing.T) {
	owns := [][]int{nil, {2}, {3}, {1}, {0}, {2, 2}, {2, 3}, {3, 2}, {2, 0}, {2, 2, 3}, {2, 3, 2}, {2, 2, 2}, {2, 2, 2, 2}, {2, 3, 2, 1}}
	shapes := [][]int{nil, {2}, {1}, {0}, {2, 3}, {2, 2}, {3, 2}, {0, 2}, {2, 3, 2}, {2, 2, 3}, {2, 2, 2}, {1, 2, 3}, {2, 2, 2, 2}, {2, 3, 2, 1}, {3, 2, 2, 3}, {2, 0, 2, 3}}
	for _, own := range owns {
		x := counted(own...)
		for _, s := range shapes {
			for n := range len(own) + 2 {
				eachList(n, append([]int{-1}, upTo(len(s)+1)...), func(a []int) {
					got, why := axes.Spread(x, s, a)
					if !fitting(own, s, a) {
						refused(t, got, why, api.ErrArg, "Spread", own, s, a)
						return
					}
					want := built(s, func(at []int) int64 {
						source := make([]int, n)
						for i, axis := range a {
							source[i] = at[axis]
						}
						return number(x, source)
					})
					answered(t, got, why, want, "Spread", own, s, a)
				})
			}
		}
	}
}

func TestSpreadOfNoAxes(t *testing.T) {
	for _, n := range append(far, 2) {
		got, why := axes.Spread(counted(3), []int{3, 3}, []int{n})
		refused(t, got, why, api.ErrArg, "Spread", n)
		got, why = axes.Spread(of(nil, 7), []int{3, 3}, []int{n})
		refused(t, got, why, api.ErrArg, "Spread, rank 0", n)
		for i := range 2 {
			a := put([]int{0, 1}, i, n)
			got, why = axes.Spread(counted(3, 3), []int{3, 3}, a)
			refused(t, got, why, api.ErrArg, "Spread", a)
		}
		got, why = axes.Spread(counted(3, 3), []int{3, 3}, []int{0, 1, n})
		refused(t, got, why, api.ErrArg, "Spread, one too many", n)
	}
	// A length of 1 is no other length.
	got, why := axes.Spread(counted(1), []int{3}, []int{0})
	refused(t, got, why, api.ErrArg, "Spread of length 1")
	got, why = axes.Spread(counted(3), []int{1}, []int{0})
	refused(t, got, why, api.ErrArg, "Spread to length 1")
	got, why = axes.Spread(counted(0), []int{3}, []int{0})
	refused(t, got, why, api.ErrArg, "Spread of length 0")
}

// wrongShapes: too many lengths, too great ones, too many numbers, lengths below 0, lengths that go round when multiplied.
var wrongShapes = [][]int{
	{1, 1, 1, 1, 1}, {0, 0, 0, 0, 0}, {33}, {33, 1}, {0, 33}, {32, 32, 5}, {8, 27, 19}, {-1}, {-1, -1}, {-2, -3}, {0, -1},
	{math.MaxInt}, {math.MinInt}, {half, 4}, {half, 2, 2, 1}, {0, math.MaxInt},
}

// TestSpreadToWrongShapes: ErrShape, be the axes such as would be refused or not: it is named first (R3).
func TestSpreadToWrongShapes(t *testing.T) {
	for _, s := range wrongShapes {
		for _, a := range [][]int{nil, {0}, {1}, {1, 0}, {0, 0}, {-1}, {9}, {math.MinInt, math.MaxInt}, upTo(len(s))} {
			for _, x := range []api.Tensor{of(nil, 7), counted(1), counted(0), counted(32, 32), counted(1, 1, 1, 1)} {
				got, why := axes.Spread(x, s, a)
				refused(t, got, why, api.ErrShape, "Spread", x.Shape, s, a)
			}
		}
	}
}

func TestSlice(t *testing.T) {
	five, six := of([]int{5}, 1, 2, 3, 4, 5), of([]int{2, 3}, 1, 2, 3, 4, 5, 6)
	for _, c := range []struct {
		x          api.Tensor
		from, size []int
		want       api.Tensor
	}{
		{five, []int{0}, []int{2}, of([]int{2}, 1, 2)},
		{five, []int{1}, []int{3}, of([]int{3}, 2, 3, 4)},
		{five, []int{3}, []int{2}, of([]int{2}, 4, 5)},
		{five, []int{4}, []int{1}, of([]int{1}, 5)},
		{five, []int{0}, []int{5}, five},
		{five, []int{0}, []int{0}, of([]int{0})},
		{five, []int{2}, []int{0}, of([]int{0})},
		{five, []int{5}, []int{0}, of([]int{0})},
		{six, []int{1, 1}, []int{1, 2}, of([]int{1, 2}, 5, 6)},
		{six, []int{0, 1}, []int{2, 1}, of([]int{2, 1}, 2, 5)},
		{six, []int{0, 0}, []int{1, 2}, of([]int{1, 2}, 1, 2)},
		{six, []int{2, 3}, []int{0, 0}, of([]int{0, 0})},
		{six, []int{2, 1}, []int{0, 2}, of([]int{0, 2})},
		{six, []int{1, 3}, []int{1, 0}, of([]int{1, 0})},
		{of([]int{0, 3}), []int{0, 1}, []int{0, 2}, of([]int{0, 2})},
		{of([]int{3, 0}), []int{3, 0}, []int{0, 0}, of([]int{0, 0})},
		{of(nil, 7), nil, nil, of(nil, 7)},
	} {
		got, why := axes.Slice(c.x, c.from, c.size)
		answered(t, got, why, c.want, "Slice", c.x, c.from, c.size)
	}
}

// TestSliceOfAll cuts small tensors in each way that may be, and in those that may not be by one.
func TestSliceOfAll(t *testing.T) {
	for _, s := range [][]int{nil, {0}, {1}, {4}, {2, 3}, {0, 2}, {2, 0}, {2, 1, 2}} {
		x := counted(s...)
		eachList(len(s), []int{-1, 0, 1, 2, 3, 4, 5}, func(from []int) {
			eachList(len(s), []int{-1, 0, 1, 2, 3, 4, 5}, func(size []int) {
				fits := true
				for axis, length := range s {
					fits = fits && from[axis] >= 0 && size[axis] >= 0 && from[axis]+size[axis] <= length
				}
				got, why := axes.Slice(x, from, size)
				if !fits {
					refused(t, got, why, api.ErrArg, "Slice", s, from, size)
					return
				}
				want := built(size, func(at []int) int64 {
					source := slices.Clone(at)
					for axis := range source {
						source[axis] += from[axis]
					}
					return number(x, source)
				})
				answered(t, got, why, want, "Slice", s, from, size)
			})
		})
	}
}

// TestSliceOfGreatTensors cuts each way of the greatest ones, ahead, in the middle and behind.
func TestSliceOfGreatTensors(t *testing.T) {
	for _, s := range [][]int{{32}, {32, 32}, {32, 4, 32}, {8, 8, 8, 8}} {
		x := counted(s...)
		for axis, length := range s {
			for _, c := range [][2]int{{0, 1}, {0, length - 1}, {1, length - 2}, {1, length - 1}, {length - 1, 1}, {length, 0}} {
				from, size := put(make([]int, len(s)), axis, c[0]), put(s, axis, c[1])
				want := built(size, func(at []int) int64 { return number(x, put(at, axis, at[axis]+c[0])) })
				got, why := axes.Slice(x, from, size)
				answered(t, got, why, want, "Slice", s, from, size)
			}
		}
	}
}

func TestSliceOfNoPiece(t *testing.T) {
	for _, s := range [][]int{{5}, {1}, {0}, {32}, {2, 3}, {3, 0}, {2, 3, 4}, {2, 3, 4, 5}} {
		x, zeroes := counted(s...), make([]int, len(s))
		for axis, length := range s {
			for _, n := range append(far, length+1) {
				for _, k := range append(far, 0, 1, length) {
					got, why := axes.Slice(x, put(zeroes, axis, n), put(s, axis, k))
					refused(t, got, why, api.ErrArg, "Slice", s, "from", n, "size", k)
					got, why = axes.Slice(x, put(zeroes, axis, k), put(s, axis, n))
					refused(t, got, why, api.ErrArg, "Slice", s, "from", k, "size", n)
				}
			}
			// Together a small number: one of them goes round, or is below 0.
			for _, c := range [][2]int{{math.MaxInt, math.MinInt + 1}, {math.MinInt, math.MinInt}, {-1, 1}, {1, -1}, {half, half}, {math.MaxInt, math.MaxInt}, {length, 1}, {1, length}} {
				got, why := axes.Slice(x, put(zeroes, axis, c[0]), put(s, axis, c[1]))
				refused(t, got, why, api.ErrArg, "Slice", s, "from", c[0], "size", c[1])
			}
		}
	}
}

// TestSliceOfOtherRank: of each way there must be both.
func TestSliceOfOtherRank(t *testing.T) {
	for _, s := range [][]int{nil, {1}, {5}, {2, 3}, {0, 0}, {1, 1, 1, 1}} {
		x := counted(s...)
		for n := range 7 {
			for k := range 7 {
				if n == len(s) && k == len(s) {
					continue
				}
				got, why := axes.Slice(x, make([]int, n), make([]int, k))
				refused(t, got, why, api.ErrArg, "Slice", s, n, "from", k, "sizes")
			}
		}
	}
}

func TestPad(t *testing.T) {
	five, six := of([]int{5}, 1, 2, 3, 4, 5), of([]int{2, 3}, 1, 2, 3, 4, 5, 6)
	for _, c := range []struct {
		x         api.Tensor
		low, high []int
		n         int64
		want      api.Tensor
	}{
		{five, []int{2}, []int{0}, 9, of([]int{7}, 9, 9, 1, 2, 3, 4, 5)},
		{five, []int{0}, []int{2}, 9, of([]int{7}, 1, 2, 3, 4, 5, 9, 9)},
		{five, []int{1}, []int{2}, 9, of([]int{8}, 9, 1, 2, 3, 4, 5, 9, 9)},
		{five, []int{0}, []int{0}, 9, five},
		{six, []int{1, 0}, []int{0, 0}, 0, of([]int{3, 3}, 0, 0, 0, 1, 2, 3, 4, 5, 6)},
		{six, []int{0, 1}, []int{1, 0}, -1, of([]int{3, 4}, -1, 1, 2, 3, -1, 4, 5, 6, -1, -1, -1, -1)},
		{six, []int{1, 0}, []int{0, 1}, -1, of([]int{3, 4}, -1, -1, -1, -1, 1, 2, 3, -1, 4, 5, 6, -1)},
		{of([]int{0}), []int{1}, []int{1}, 3, of([]int{2}, 3, 3)},
		{of([]int{0}), []int{0}, []int{0}, 3, of([]int{0})},
		{of([]int{0, 2}), []int{1, 1}, []int{1, 0}, 3, of([]int{2, 3}, 3, 3, 3, 3, 3, 3)},
		{of([]int{2, 0}), []int{1, 0}, []int{0, 0}, 3, of([]int{3, 0})},
		{of([]int{1}, 5), []int{0}, []int{1}, math.MaxInt64, of([]int{2}, 5, math.MaxInt64)},
		{of([]int{1}, 5), []int{1}, []int{0}, math.MinInt64, of([]int{2}, math.MinInt64, 5)},
		{of(nil, 7), nil, nil, 9, of(nil, 7)},
	} {
		got, why := axes.Pad(c.x, c.low, c.high, c.n)
		answered(t, got, why, c.want, "Pad", c.x, c.low, c.high, c.n)
	}
}

// padded makes what Pad is to answer, place by place.
func padded(x api.Tensor, low, high []int, n int64) api.Tensor {
	s := slices.Clone(x.Shape)
	for axis := range s {
		s[axis] += low[axis] + high[axis]
	}
	return built(s, func(at []int) int64 {
		source := slices.Clone(at)
		for axis := range source {
			source[axis] -= low[axis]
			if source[axis] < 0 || source[axis] >= x.Shape[axis] {
				return n
			}
		}
		return number(x, source)
	})
}

// TestPadOfAll pads tensors of each rank on each side of each way, and on several at once.
func TestPadOfAll(t *testing.T) {
	for _, s := range [][]int{nil, {0}, {1}, {4}, {2, 3}, {0, 2}, {2, 0}, {2, 1, 2}, {1, 2, 3, 2}} {
		x := counted(s...)
		eachList(len(s), []int{0, 1, 2}, func(low []int) {
			eachList(len(s), []int{0, 1, 3}, func(high []int) {
				got, why := axes.Pad(x, low, high, -5)
				answered(t, got, why, padded(x, low, high, -5), "Pad", s, low, high)
			})
		})
	}
}

// TestPadUpToLimits: a low or a high of MaxDim passes where the answer's shape may be; else ErrShape, not ErrArg.
func TestPadUpToLimits(t *testing.T) {
	for _, s := range [][]int{{0}, {1}, {5}, {31}, {32}, {0, 3}, {3, 0}, {0, 0}, {32, 32}, {16, 16, 16}, {16, 32, 7}, {8, 8, 8, 8}, {32, 32, 32, 0}, {1, 1, 1, 1}} {
		x, zeroes := counted(s...), make([]int, len(s))
		for axis := range s {
			for _, c := range [][2]int{{0, 0}, {1, 0}, {0, 1}, {1, 1}, {31, 0}, {0, 31}, {32, 0}, {0, 32}, {16, 16}, {16, 17}, {31, 1}, {27, 0}, {27, 1}, {32, 1}, {1, 32}, {32, 32}} {
				low, high := put(zeroes, axis, c[0]), put(zeroes, axis, c[1])
				got, why := axes.Pad(x, low, high, 9)
				if !rightShape(put(s, axis, s[axis]+c[0]+c[1])) {
					refused(t, got, why, api.ErrShape, "Pad", s, low, high)
					continue
				}
				answered(t, got, why, padded(x, low, high, 9), "Pad", s, low, high)
			}
		}
	}
}

// TestPadOfNoLengths: ErrArg, wherever it stands, be the answer's shape one that may be or not: it is named first (R3).
func TestPadOfNoLengths(t *testing.T) {
	for _, s := range [][]int{{0}, {5}, {32}, {2, 3}, {32, 32}, {3, 0}, {8, 8, 8, 8}} {
		x := counted(s...)
		for _, other := range []int{0, 1, 32} {
			others := slices.Repeat([]int{other}, len(s))
			for axis := range s {
				for _, n := range far {
					got, why := axes.Pad(x, put(others, axis, n), others, 9)
					refused(t, got, why, api.ErrArg, "Pad", s, "low", n, other)
					got, why = axes.Pad(x, others, put(others, axis, n), 9)
					refused(t, got, why, api.ErrArg, "Pad", s, "high", n, other)
					for _, k := range []int{n, -n, 1 - n, math.MaxInt - n, math.MinInt - n} {
						// Beside this one a sum of both may look like a length: it goes round, or comes back to a small number.
						got, why = axes.Pad(x, put(others, axis, n), put(others, axis, k), 9)
						refused(t, got, why, api.ErrArg, "Pad", s, "low", n, "high", k)
					}
				}
			}
		}
	}
}

// TestPadOfOtherRank: of each way there must be both; this is refused ahead of a shape that may not be.
func TestPadOfOtherRank(t *testing.T) {
	for _, s := range [][]int{nil, {5}, {2, 3}, {0, 0}, {32, 32}, {1, 1, 1, 1}} {
		x := counted(s...)
		for n := range 7 {
			for k := range 7 {
				for _, length := range []int{0, 1, 32} {
					if n == len(s) && k == len(s) {
						continue
					}
					got, why := axes.Pad(x, slices.Repeat([]int{length}, n), slices.Repeat([]int{length}, k), 9)
					refused(t, got, why, api.ErrArg, "Pad", s, n, "lows", k, "highs", length)
				}
			}
		}
	}
}

func TestJoin(t *testing.T) {
	x, y := of([]int{2, 3}, 1, 2, 3, 4, 5, 6), of([]int{1, 3}, 7, 8, 9)
	z := of([]int{2, 1}, 10, 11)
	for _, c := range []struct {
		axis int
		l    []api.Tensor
		want api.Tensor
	}{
		{0, []api.Tensor{x, y}, of([]int{3, 3}, 1, 2, 3, 4, 5, 6, 7, 8, 9)},
		{0, []api.Tensor{y, x}, of([]int{3, 3}, 7, 8, 9, 1, 2, 3, 4, 5, 6)},
		{1, []api.Tensor{x, x}, of([]int{2, 6}, 1, 2, 3, 1, 2, 3, 4, 5, 6, 4, 5, 6)},
		{1, []api.Tensor{x, z, x}, of([]int{2, 7}, 1, 2, 3, 10, 1, 2, 3, 4, 5, 6, 11, 4, 5, 6)},
		{1, []api.Tensor{z, x}, of([]int{2, 4}, 10, 1, 2, 3, 11, 4, 5, 6)},
		{0, []api.Tensor{y}, y},
		{1, []api.Tensor{y}, y},
		{0, []api.Tensor{of([]int{0})}, of([]int{0})},
		{0, []api.Tensor{of([]int{0}), of([]int{2}, 1, 2), of([]int{0}), of([]int{1}, 3)}, of([]int{3}, 1, 2, 3)},
		{0, []api.Tensor{of([]int{0}), of([]int{0})}, of([]int{0})},
		{1, []api.Tensor{of([]int{0, 3}), of([]int{0, 4})}, of([]int{0, 7})},
		{0, []api.Tensor{of([]int{0, 3}), y}, y},
		{1, []api.Tensor{of([]int{2, 2, 1}, 1, 2, 3, 4), of([]int{2, 1, 1}, 5, 6)}, of([]int{2, 3, 1}, 1, 2, 5, 3, 4, 6)},
	} {
		got, why := axes.Join(c.axis, c.l...)
		answered(t, got, why, c.want, "Join", c.axis, c.l)
	}
}

// joined makes what Join is to answer: of each place the number of that tensor which the way along axis falls to.
func joined(axis int, l []api.Tensor) api.Tensor {
	s := slices.Clone(l[0].Shape)
	for _, x := range l[1:] {
		s[axis] += x.Shape[axis]
	}
	return built(s, func(at []int) int64 {
		source := slices.Clone(at)
		which := 0
		for source[axis] >= l[which].Shape[axis] {
			source[axis] -= l[which].Shape[axis]
			which++
		}
		return number(l[which], source)
	})
}

// TestJoinOfAll joins one to four tensors along each axis, of lengths that are and that aren't the same.
func TestJoinOfAll(t *testing.T) {
	for _, s := range [][]int{{1}, {2, 3}, {0, 2}, {3, 0}, {2, 1, 3}, {2, 3, 2, 2}} {
		for axis := range s {
			for n := 1; n <= 4; n++ {
				eachList(n, []int{0, 1, 2, 4}, func(long []int) {
					var l []api.Tensor
					for i, length := range long {
						l = append(l, countedFrom(1000*i, put(s, axis, length)...))
					}
					got, why := axes.Join(axis, l...)
					answered(t, got, why, joined(axis, l), "Join", s, axis, long)
				})
			}
		}
	}
}

// TestJoinUpToLimits: the answer may be as great as a tensor may be, and no greater.
func TestJoinUpToLimits(t *testing.T) {
	for _, c := range []struct {
		axis int
		l    []api.Tensor
		ok   bool
	}{
		{0, []api.Tensor{counted(16), counted(16)}, true},
		{0, []api.Tensor{counted(31), counted(1)}, true},
		{0, []api.Tensor{counted(16), counted(16), counted(1)}, false},
		{0, []api.Tensor{counted(32), counted(1)}, false},
		{0, []api.Tensor{counted(32), counted(32)}, false},
		{0, []api.Tensor{counted(32), counted(0)}, true},
		{0, []api.Tensor{counted(2, 32, 32), counted(2, 32, 32)}, true},
		{0, []api.Tensor{counted(2, 32, 32), counted(3, 32, 32)}, false},
		{2, []api.Tensor{counted(16, 16, 15), counted(16, 16, 1)}, true},
		{2, []api.Tensor{counted(16, 16, 15), counted(16, 16, 2)}, false},
		{3, []api.Tensor{counted(8, 8, 8, 4), counted(8, 8, 8, 4)}, true},
		{3, []api.Tensor{counted(8, 8, 8, 8), counted(8, 8, 8, 1)}, false},
		{1, []api.Tensor{counted(0, 32), counted(0, 1)}, false},
		{1, []api.Tensor{counted(0, 16), counted(0, 16)}, true},
		{3, []api.Tensor{counted(32, 32, 32, 0), counted(32, 32, 32, 0)}, true},
		{0, []api.Tensor{counted(32, 32, 32, 0), counted(1, 32, 32, 0)}, false},
		{0, slices.Repeat([]api.Tensor{counted(1)}, 32), true},
		{0, slices.Repeat([]api.Tensor{counted(1)}, 33), false},
		{0, slices.Repeat([]api.Tensor{counted(0)}, 100), true},
	} {
		got, why := axes.Join(c.axis, c.l...)
		if !c.ok {
			refused(t, got, why, api.ErrShape, "Join", c.axis, len(c.l), c.l[0].Shape)
			continue
		}
		answered(t, got, why, joined(c.axis, c.l), "Join", c.axis, len(c.l), c.l[0].Shape)
	}
}

func TestJoinOfNone(t *testing.T) {
	for _, axis := range append(far, 0, 1) {
		got, why := axes.Join(axis)
		refused(t, got, why, api.ErrArg, "Join of none", axis)
		got, why = axes.Join(axis, []api.Tensor{}...)
		refused(t, got, why, api.ErrArg, "Join of none", axis)
	}
}

// TestJoinOfNoAxis: the first one's axes count; it is refused ahead of shapes that do not fit (R3).
func TestJoinOfNoAxis(t *testing.T) {
	for _, s := range someShapes {
		x := counted(s...)
		for _, axis := range append(far, len(s), len(s)+1) {
			for _, l := range [][]api.Tensor{{x}, {x, x}, {x, counted(1, 1, 1, 1)}, {x, counted(2, 3), counted(32)}, {x, of(nil, 5)}} {
				got, why := axes.Join(axis, l...)
				refused(t, got, why, api.ErrArg, "Join", s, axis, len(l))
			}
		}
	}
}

// TestJoinOfUnlikeShapes: ErrShape, wherever the one stands that does not fit.
func TestJoinOfUnlikeShapes(t *testing.T) {
	for _, c := range []struct {
		axis int
		s, z []int
	}{
		{0, []int{2, 3}, []int{2, 2}},
		{0, []int{2, 3}, []int{2, 4}},
		{0, []int{2, 3}, []int{2, 0}},
		{0, []int{0, 3}, []int{0, 2}},
		{1, []int{2, 3}, []int{1, 3}},
		{1, []int{2, 3}, []int{0, 3}},
		{1, []int{2, 3}, []int{3, 2}},
		{0, []int{2, 3}, []int{2}},
		{0, []int{2}, []int{2, 3}},
		{0, []int{2}, nil},
		{0, []int{2, 3}, []int{2, 3, 1}},
		{1, []int{2, 3}, []int{2, 3, 1, 1}},
		{1, []int{2, 3, 4}, []int{2, 3, 5}},
		{1, []int{2, 3, 4}, []int{1, 3, 4}},
		{2, []int{2, 3, 4, 5}, []int{2, 3, 4, 6}},
		{3, []int{2, 3, 4, 5}, []int{1, 3, 4, 5}},
	} {
		x, z := counted(c.s...), counted(c.z...)
		for _, l := range [][]api.Tensor{{x, z}, {x, z, x}, {x, x, z}, {x, z, z}, {x, x, x, z}} {
			got, why := axes.Join(c.axis, l...)
			refused(t, got, why, api.ErrShape, "Join", c.axis, c.s, c.z, len(l))
		}
		if c.axis < len(c.z) {
			got, why := axes.Join(c.axis, z, x)
			refused(t, got, why, api.ErrShape, "Join", c.axis, c.z, c.s)
		}
	}
}

// TestWrongTensors: ErrShape ahead of all else, be the rest such as would be refused or not (R3).
func TestWrongTensors(t *testing.T) {
	lists := [][]int{nil, {0}, {1}, {1, 0}, {0, 0}, {-1}, {33}, {math.MaxInt, math.MinInt}, {0, 1, 2, 3, 4}}
	for _, x := range wrongTensors() {
		for _, a := range append(lists, upTo(len(x.Shape))) {
			got, why := axes.Turn(x, a)
			refused(t, got, why, api.ErrShape, "Turn of a wrong tensor", x.Shape, a)
			for _, b := range append(lists, make([]int, len(x.Shape)), x.Shape) {
				got, why = axes.Spread(x, b, a)
				refused(t, got, why, api.ErrShape, "Spread of a wrong tensor", x.Shape, b, a)
				got, why = axes.Slice(x, a, b)
				refused(t, got, why, api.ErrShape, "Slice of a wrong tensor", x.Shape, a, b)
				got, why = axes.Pad(x, a, b, 9)
				refused(t, got, why, api.ErrShape, "Pad of a wrong tensor", x.Shape, a, b)
			}
		}
		zeroes := make([]int, len(x.Shape))
		got, why := axes.Slice(x, zeroes, zeroes)
		refused(t, got, why, api.ErrShape, "Slice of a wrong tensor", x.Shape)
		got, why = axes.Pad(x, zeroes, zeroes, 9)
		refused(t, got, why, api.ErrShape, "Pad of a wrong tensor", x.Shape)
		y := counted(2, 3)
		for _, axis := range append(far, 0, 1, 2) {
			for _, l := range [][]api.Tensor{{x}, {x, x}, {x, y}, {y, x}, {y, y, x}, {of(nil, 5), x}, {y, counted(7), x}, {y, x, counted(7)}} {
				got, why = axes.Join(axis, l...)
				refused(t, got, why, api.ErrShape, "Join of a wrong tensor", x.Shape, axis, len(l))
			}
		}
	}
}

// roomy makes a list with spare room that is full of n.
func roomy[T any](n T, l ...T) []T {
	r := slices.Grow(slices.Clone(l), 6)
	for i := range r[len(l):cap(r)] {
		r[len(l):cap(r)][i] = n
	}
	return r
}

// roomyTensor is x with spare room that is full of n.
func roomyTensor(x api.Tensor, n int) api.Tensor {
	return api.Tensor{Shape: roomy(n, x.Shape...), Data: roomy(int64(n), x.Data...)}
}

// whole is x with all of its room.
func whole(x api.Tensor) api.Tensor {
	return api.Tensor{Shape: x.Shape[:cap(x.Shape)], Data: x.Data[:cap(x.Data)]}
}

// kept is a tensor by itself, all of its room included.
func kept(x api.Tensor) api.Tensor {
	x = whole(x)
	return api.Tensor{Shape: slices.Clone(x.Shape), Data: slices.Clone(x.Data)}
}

// overwrite writes over all of a list's room.
func overwrite[T int | int64](l []T) {
	l = l[:cap(l)]
	for i := range l {
		l[i] = -77
	}
}

// scribble writes over all of a tensor's room.
func scribble(x api.Tensor) {
	overwrite(x.Shape)
	overwrite(x.Data)
}

// given is what is handed in to all of the package's calls.
type given struct {
	t                                 api.Tensor
	turn, s, a, from, size, low, high []int
	axis                              int
	l                                 []api.Tensor
}

// numbers are its lists of numbers.
func (g given) numbers() [][]int {
	return [][]int{g.turn, g.s, g.a, g.from, g.size, g.low, g.high}
}

// tensors are its tensors, those in the spare room of its list included.
func (g given) tensors() []api.Tensor {
	return append([]api.Tensor{g.t}, g.l[:cap(g.l)]...)
}

// roomyGiven is g by itself, all of its lists with spare room.
func (g given) roomyGiven(n int) given {
	r := given{axis: g.axis, t: roomyTensor(g.t, n)}
	r.turn, r.s, r.a, r.from = roomy(n, g.turn...), roomy(n+1, g.s...), roomy(n+2, g.a...), roomy(n+3, g.from...)
	r.size, r.low, r.high = roomy(n+4, g.size...), roomy(n+5, g.low...), roomy(n+6, g.high...)
	for i, x := range g.l {
		r.l = append(r.l, roomyTensor(x, n+7+i))
	}
	r.l = roomy(roomyTensor(counted(2), n), r.l...)
	return r
}

// keptGiven is g by itself, all of its room included.
func (g given) keptGiven() given {
	k := given{axis: g.axis, t: kept(g.t)}
	var lists [][]int
	for _, l := range g.numbers() {
		lists = append(lists, slices.Clone(l[:cap(l)]))
	}
	k.turn, k.s, k.a, k.from, k.size, k.low, k.high = lists[0], lists[1], lists[2], lists[3], lists[4], lists[5], lists[6]
	for _, x := range g.l[:cap(g.l)] {
		k.l = append(k.l, kept(x))
	}
	k.l = slices.Clip(k.l)
	return k
}

// unchanged tells whether all of g's room holds what is told.
func (g given) unchanged(want given) bool {
	for i, l := range g.numbers() {
		if !slices.Equal(l[:cap(l)], want.numbers()[i]) {
			return false
		}
	}
	for i, x := range g.tensors() {
		if !alike(whole(x), want.tensors()[i]) {
			return false
		}
	}
	return true
}

// answers are all that the package's calls make of g, in their order.
func answers(g given) []api.Tensor {
	turn, _ := axes.Turn(g.t, g.turn)
	spread, _ := axes.Spread(g.t, g.s, g.a)
	slice, _ := axes.Slice(g.t, g.from, g.size)
	pad, _ := axes.Pad(g.t, g.low, g.high, 9)
	join, _ := axes.Join(g.axis, g.l...)
	return []api.Tensor{turn, spread, slice, pad, join}
}

// allGiven: ordinary ones, ones where the answer is as what was handed in, ones without numbers, refused ones.
func allGiven() []given {
	l := []given{
		{counted(2, 3), []int{1, 0}, []int{2, 2, 3}, []int{0, 2}, []int{0, 1}, []int{2, 1}, []int{1, 0}, []int{0, 2}, 1, []api.Tensor{counted(2, 3), counted(2, 1)}},
		{counted(2, 3), []int{0, 1}, []int{2, 3}, []int{0, 1}, []int{0, 0}, []int{2, 3}, []int{0, 0}, []int{0, 0}, 0, []api.Tensor{counted(2, 3)}},
		{counted(3), []int{0}, []int{3}, []int{0}, []int{0}, []int{3}, []int{0}, []int{0}, 0, []api.Tensor{counted(3), counted(0)}},
		{of(nil, 5), nil, []int{2, 2}, nil, nil, nil, nil, nil, 0, []api.Tensor{counted(1), counted(1)}},
		{of(nil, 5), nil, nil, nil, nil, nil, nil, nil, 0, nil},
		{counted(0, 2), []int{1, 0}, []int{0, 2, 2}, []int{0, 1}, []int{0, 1}, []int{0, 1}, []int{1, 0}, []int{0, 0}, 1, []api.Tensor{counted(0, 2), counted(0, 1)}},
		{counted(8, 8, 8, 8), []int{3, 2, 1, 0}, []int{8, 8, 8, 8}, []int{0, 1, 2, 3}, []int{1, 0, 2, 0}, []int{7, 8, 6, 8}, make([]int, 4), make([]int, 4), 2, []api.Tensor{counted(8, 8, 4, 8), counted(8, 8, 4, 8)}},
		{counted(2, 3), []int{0, 0}, []int{2, 3}, []int{1, 0}, []int{0, 4}, []int{2, 1}, []int{-1, 0}, []int{0, 0}, 2, []api.Tensor{counted(2, 3), counted(2)}},
		{counted(2, 3), []int{0}, []int{33}, []int{0, 1}, []int{0}, []int{2, 1}, []int{32, 32}, []int{32, 32}, 0, []api.Tensor{counted(2, 3), counted(2)}},
		{counted(32, 32), []int{0, 2}, []int{32, 32, 32}, []int{0, 1}, []int{33, 0}, []int{0, 0}, []int{1, 0}, []int{0, 0}, 0, []api.Tensor{counted(32, 32), counted(1, 32)}},
	}
	for _, x := range wrongTensors() {
		l = append(l, given{x, []int{0}, []int{2}, []int{0}, []int{0}, []int{1}, []int{0}, []int{1}, 0, []api.Tensor{counted(2), x}})
	}
	return l
}

// TestHandedInIsKept: no call changes a list, its spare room included, be it refused or not (R2, R3).
func TestHandedInIsKept(t *testing.T) {
	for i, g := range allGiven() {
		r := g.roomyGiven(7)
		want := r.keptGiven()
		answers(r)
		if !r.unchanged(want) {
			t.Errorf("case %d: what was handed in is changed", i)
		}
	}
}

// TestAnswersAreNew: writing over an answer, or over one list of it, changes nothing that was handed in, and no other answer (R2).
func TestAnswersAreNew(t *testing.T) {
	for k, g := range allGiven() {
		r := g.roomyGiven(7)
		want := r.keptGiven()
		all := append(answers(r), answers(r)...)
		var made []api.Tensor
		for _, a := range all {
			made = append(made, kept(a))
		}
		for i, a := range all {
			overwrite(a.Shape)
			if !slices.Equal(a.Data[:cap(a.Data)], made[i].Data) {
				t.Errorf("case %d: the lists of answer %d share memory", k, i)
			}
			scribble(a)
			for j, b := range all[i+1:] {
				if !alike(whole(b), made[i+1+j]) {
					t.Errorf("case %d: answers %d and %d share memory", k, i, i+1+j)
				}
			}
		}
		if !r.unchanged(want) {
			t.Errorf("case %d: an answer shares memory with what was handed in", k)
		}
	}
}

// TestNothingIsKept: writing over what was handed in changes no answer (R2).
func TestNothingIsKept(t *testing.T) {
	for k, g := range allGiven() {
		r := g.roomyGiven(7)
		all, want := answers(r), answers(g)
		for _, l := range r.numbers() {
			overwrite(l)
		}
		for _, x := range r.tensors() {
			scribble(x)
		}
		clear(r.l[:cap(r.l)])
		for i, got := range all {
			if !alike(got, want[i]) {
				t.Errorf("case %d: answer %d changes with what was handed in", k, i)
			}
		}
		for i, got := range answers(g) {
			if !alike(got, want[i]) {
				t.Errorf("case %d: answer %d is another one the second time", k, i)
			}
		}
	}
}

// TestSpareRoom: what lies behind a list does not change what is answered (R5).
func TestSpareRoom(t *testing.T) {
	for k, g := range allGiven() {
		want := answers(g)
		for _, n := range []int{0, 1, -1, 2, 33, math.MaxInt - 20} {
			for i, got := range answers(g.roomyGiven(n)) {
				if !alike(got, want[i]) {
					t.Errorf("case %d, spare room of %d: answer %d is %v, not %v", k, n, i, got, want[i])
				}
			}
		}
	}
	x := counted(2, 3)
	got, why := axes.Turn(x, roomy(1, 0))
	refused(t, got, why, api.ErrArg, "Turn: spare room")
	got, why = axes.Spread(x, []int{2, 3}, roomy(1, 0))
	refused(t, got, why, api.ErrArg, "Spread: spare room")
	got, why = axes.Slice(x, roomy(0, 0), []int{2, 3})
	refused(t, got, why, api.ErrArg, "Slice: spare room")
	got, why = axes.Pad(x, []int{0, 0}, roomy(0, 0), 9)
	refused(t, got, why, api.ErrArg, "Pad: spare room")
	got, why = axes.Join(0, roomy(x)...)
	refused(t, got, why, api.ErrArg, "Join: spare room")
	short := api.Tensor{Shape: []int{2}, Data: roomy(int64(5), 1)}
	got, why = axes.Turn(short, []int{0})
	refused(t, got, why, api.ErrShape, "Turn: spare room for numbers")
}

// TestSharedMemory: what is handed in may share memory with one another.
func TestSharedMemory(t *testing.T) {
	l, data := []int{1, 0, 1, 2}, row(1, 4)
	x := api.Tensor{Shape: l[3:], Data: data[:2]}
	y := api.Tensor{Shape: l[3:], Data: data[1:3]}
	got, why := axes.Join(0, x, y, x)
	answered(t, got, why, of([]int{6}, 1, 2, 2, 3, 1, 2), "Join")
	got, why = axes.Slice(x, l[:1], l[:1])
	answered(t, got, why, of([]int{1}, 2), "Slice")
	got, why = axes.Pad(x, l[:1], l[:1], 9)
	answered(t, got, why, of([]int{4}, 9, 1, 2, 9), "Pad")
	got, why = axes.Spread(x, l[2:], l[:1])
	answered(t, got, why, of([]int{1, 2}, 1, 2), "Spread")
	got, why = axes.Turn(api.Tensor{Shape: l[2:], Data: data[:2]}, l[:2])
	answered(t, got, why, of([]int{2, 1}, 1, 2), "Turn")
	if !slices.Equal(l, []int{1, 0, 1, 2}) || !slices.Equal(data, row(1, 4)) {
		t.Errorf("changed: %v, %v", l, data)
	}
}

// TestNilAndEmpty: they mean the same (R4).
func TestNilAndEmpty(t *testing.T) {
	five := of(nil, 5)
	for _, s := range [][]int{nil, {}, roomy(9)} {
		for _, z := range [][]int{nil, {}, roomy(9)} {
			got, why := axes.Turn(of(s, 5), z)
			answered(t, got, why, five, "Turn")
			got, why = axes.Spread(five, s, z)
			answered(t, got, why, five, "Spread")
			got, why = axes.Slice(five, s, z)
			answered(t, got, why, five, "Slice")
			got, why = axes.Pad(five, s, z, 9)
			answered(t, got, why, five, "Pad")
		}
	}
	for _, data := range [][]int64{nil, {}, roomy(int64(9))} {
		x := of([]int{0}, data...)
		got, why := axes.Join(0, x, x)
		answered(t, got, why, of([]int{0}), "Join")
		got, why = axes.Pad(x, []int{1}, []int{0}, 9)
		answered(t, got, why, of([]int{1}, 9), "Pad")
		got, why = axes.Turn(of(nil, data...), nil)
		refused(t, got, why, api.ErrShape, "Turn of nothing")
	}
	for _, l := range [][]api.Tensor{nil, {}, roomy(five)} {
		got, why := axes.Join(0, l...)
		refused(t, got, why, api.ErrArg, "Join of none")
	}
}

// TestLongLists: calls end, of long lists too (R1).
func TestLongLists(t *testing.T) {
	const long = 1 << 20
	data, x := make([]int64, long), counted(2, 3)
	for _, n := range []int{0, 1, -1, math.MaxInt, math.MinInt} {
		l := slices.Repeat([]int{n}, long)
		got, why := axes.Turn(x, l)
		refused(t, got, why, api.ErrArg, "Turn, a long list")
		got, why = axes.Spread(x, []int{2, 3}, l)
		refused(t, got, why, api.ErrArg, "Spread, a long list")
		got, why = axes.Spread(x, l, []int{0, 1})
		refused(t, got, why, api.ErrShape, "Spread, a long shape")
		got, why = axes.Slice(x, l, l)
		refused(t, got, why, api.ErrArg, "Slice, long lists")
		got, why = axes.Pad(x, l, l, 9)
		refused(t, got, why, api.ErrArg, "Pad, long lists")
		got, why = axes.Turn(of(l, data...), l)
		refused(t, got, why, api.ErrShape, "Turn of a long tensor")
	}
	for _, s := range [][]int{{0}, {0, 3}, {32, 32, 32, 0}} {
		axis := slices.Index(s, 0)
		got, why := axes.Join(axis, slices.Repeat([]api.Tensor{counted(s...)}, long)...)
		answered(t, got, why, counted(s...), "Join of many of nothing", s)
	}
	got, why := axes.Join(0, slices.Repeat([]api.Tensor{counted(32)}, long)...)
	refused(t, got, why, api.ErrShape, "Join of many")
}
