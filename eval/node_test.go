// Tests of P11.1's Node, and of the rules R1 to R5 for it.
package eval_test

import (
	"fmt"
	"math"
	"slices"
	"strings"
	"testing"

	"parquetry/api"
	"parquetry/eval"
	"parquetry/graph"
)

// half is a number that, taken twice, goes round.
const half = math.MaxInt/2 + 1

// call is what Node is handed.
type call struct {
	n  api.Node
	in []api.Tensor
}

// instances is one call of each op that is answered (Param's by ErrNone), in the order of their numbers, with all that its op asks for told.
func instances() []call {
	x, y := of(l(2, 3), 1, 2, 3, 4, 5, 6), of(l(2, 3), 6, 5, 4, 3, 2, 1)
	c, z := of(l(2, 3), 0, 1, 0, 1, 0, -1), of(l(3, 2), 1, 2, 3, 4, 5, 6)
	return []call{
		{api.Node{Op: api.Param, Shape: l(2, 3)}, nil},
		{api.Node{Op: api.Fill, Shape: l(2, 3), N: 5}, nil},
		{api.Node{Op: api.Iota, Shape: l(2, 3), A: l(1)}, nil},
		{api.Node{Op: api.Neg}, in(x)},
		{api.Node{Op: api.Not}, in(c)},
		{api.Node{Op: api.Add}, in(x, y)},
		{api.Node{Op: api.Sub}, in(x, y)},
		{api.Node{Op: api.Mul}, in(x, y)},
		{api.Node{Op: api.Min}, in(x, y)},
		{api.Node{Op: api.Max}, in(x, y)},
		{api.Node{Op: api.Less}, in(x, y)},
		{api.Node{Op: api.Select}, in(c, x, y)},
		{api.Node{Op: api.Turn, A: l(1, 0)}, in(x)},
		{api.Node{Op: api.Spread, Shape: l(2, 2, 3), A: l(0, 2)}, in(x)},
		{api.Node{Op: api.Slice, A: l(0, 1, 2, 1)}, in(x)},
		{api.Node{Op: api.Pad, A: l(1, 0, 0, 2), N: 7}, in(x)},
		{api.Node{Op: api.Join, A: l(1)}, in(x, y)},
		{api.Node{Op: api.Fold, A: l(0), How: api.Most}, in(x)},
		{api.Node{Op: api.Dot, A: l(0)}, in(x, z)},
		{api.Node{Op: api.Window, A: l(1, 2, 1), How: api.Prod}, in(x)},
	}
}

// answers are those of instances.
func answers() []api.Tensor {
	return []api.Tensor{
		{},
		of(l(2, 3), 5, 5, 5, 5, 5, 5),
		of(l(2, 3), 0, 1, 2, 0, 1, 2),
		of(l(2, 3), -1, -2, -3, -4, -5, -6),
		of(l(2, 3), 1, 0, 1, 0, 1, 0),
		of(l(2, 3), 7, 7, 7, 7, 7, 7),
		of(l(2, 3), -5, -3, -1, 1, 3, 5),
		of(l(2, 3), 6, 10, 12, 12, 10, 6),
		of(l(2, 3), 1, 2, 3, 3, 2, 1),
		of(l(2, 3), 6, 5, 4, 4, 5, 6),
		of(l(2, 3), 1, 1, 1, 0, 0, 0),
		of(l(2, 3), 6, 2, 4, 4, 2, 6),
		of(l(3, 2), 1, 4, 2, 5, 3, 6),
		of(l(2, 2, 3), 1, 2, 3, 1, 2, 3, 4, 5, 6, 4, 5, 6),
		of(l(2, 1), 2, 5),
		of(l(3, 5), 7, 7, 7, 7, 7, 1, 2, 3, 7, 7, 4, 5, 6, 7, 7),
		of(l(2, 6), 1, 2, 3, 6, 5, 4, 4, 5, 6, 3, 2, 1),
		of(l(3), 4, 5, 6),
		of(l(2, 2), 22, 28, 49, 64),
		of(l(2, 2), 2, 6, 20, 30),
	}
}

// TestEachOp: each op is answered; no other number is an op.
func TestEachOp(t *testing.T) {
	want := answers()
	for i, c := range instances() {
		if c.n.Op != i+1 {
			t.Fatalf("op %d: at place %d", c.n.Op, i)
		}
		if c.n.Op == api.Param {
			refused(t, c.n, c.in, api.ErrNone)
		} else {
			answered(t, c.n, c.in, want[i])
		}
		for _, op := range []int{0, -1, api.Window + 1, api.Window + 2, 99, c.n.Op + 32, c.n.Op - 32, c.n.Op + 1<<8, c.n.Op + 1<<32, -c.n.Op, math.MaxInt, math.MinInt} {
			c.n.Op = op
			refused(t, c.n, c.in, api.ErrArg)
		}
	}
}

// TestOfRanks: each op by hand, of tensors of other ranks.
func TestOfRanks(t *testing.T) {
	five, nine := of(nil, 5), of(nil, 9)
	eight := of(l(2, 2, 2), 1, 2, 3, 4, 5, 6, 7, 8)
	four := of(l(1, 2, 1, 2), 1, 2, 3, 4)
	for _, c := range []struct {
		n    api.Node
		in   []api.Tensor
		want api.Tensor
	}{
		{api.Node{Op: api.Fill, N: -4}, nil, of(nil, -4)},
		{api.Node{Op: api.Fill, Shape: l(2)}, nil, of(l(2), 0, 0)},
		{api.Node{Op: api.Fill, Shape: l(1, 2, 1, 2), N: 3}, nil, of(l(1, 2, 1, 2), 3, 3, 3, 3)},
		{api.Node{Op: api.Iota, Shape: l(3), A: l(0)}, nil, of(l(3), 0, 1, 2)},
		{api.Node{Op: api.Iota, Shape: l(2, 2, 2), A: l(1)}, nil, of(l(2, 2, 2), 0, 0, 1, 1, 0, 0, 1, 1)},
		{api.Node{Op: api.Iota, Shape: l(1, 2, 1, 2), A: l(3)}, nil, of(l(1, 2, 1, 2), 0, 1, 0, 1)},
		{api.Node{Op: api.Neg}, in(five), of(nil, -5)},
		{api.Node{Op: api.Not}, in(five), of(nil, 0)},
		{api.Node{Op: api.Sub}, in(five, nine), of(nil, -4)},
		{api.Node{Op: api.Sub}, in(nine, five), of(nil, 4)},
		{api.Node{Op: api.Less}, in(four, four), of(l(1, 2, 1, 2), 0, 0, 0, 0)},
		{api.Node{Op: api.Select}, in(five, nine, five), nine},
		{api.Node{Op: api.Select}, in(of(nil, 0), nine, five), five},
		{api.Node{Op: api.Turn}, in(five), five},
		{api.Node{Op: api.Turn, A: l(1, 2, 0)}, in(eight), of(l(2, 2, 2), 1, 5, 2, 6, 3, 7, 4, 8)},
		{api.Node{Op: api.Turn, A: l(3, 1, 2, 0)}, in(four), of(l(2, 2, 1, 1), 1, 3, 2, 4)},
		{api.Node{Op: api.Spread, Shape: l(3)}, in(five), of(l(3), 5, 5, 5)},
		{api.Node{Op: api.Spread}, in(five), five},
		{api.Node{Op: api.Spread, Shape: l(2, 2), A: l(0)}, in(of(l(2), 7, 8)), of(l(2, 2), 7, 7, 8, 8)},
		{api.Node{Op: api.Spread, Shape: l(2, 2), A: l(1)}, in(of(l(2), 7, 8)), of(l(2, 2), 7, 8, 7, 8)},
		{api.Node{Op: api.Slice}, in(five), five},
		{api.Node{Op: api.Slice, A: l(1, 0, 1, 1, 2, 1)}, in(eight), of(l(1, 2, 1), 6, 8)},
		{api.Node{Op: api.Slice, A: l(0, 1, 0, 0, 1, 1, 1, 2)}, in(four), of(l(1, 1, 1, 2), 3, 4)},
		{api.Node{Op: api.Pad, N: 6}, in(five), five},
		{api.Node{Op: api.Pad, A: l(1, 2), N: 6}, in(of(l(2), 7, 8)), of(l(5), 6, 7, 8, 6, 6)},
		{api.Node{Op: api.Pad, A: l(0, 0, 1, 0, 0, 0), N: -1}, in(eight), of(l(2, 2, 3), -1, 1, 2, -1, 3, 4, -1, 5, 6, -1, 7, 8)},
		{api.Node{Op: api.Join, A: l(0)}, in(of(l(1), 1), of(l(2), 2, 3), of(l(1), 4), of(l(3), 5, 6, 7)), of(l(7), 1, 2, 3, 4, 5, 6, 7)},
		{api.Node{Op: api.Join, A: l(2)}, in(four, of(l(1, 2, 2, 2), 5, 6, 7, 8, 9, 10, 11, 12)), of(l(1, 2, 3, 2), 1, 2, 5, 6, 7, 8, 3, 4, 9, 10, 11, 12)},
		{api.Node{Op: api.Fold, How: api.Sum}, in(five), five},
		{api.Node{Op: api.Fold, A: l(0, 2), How: api.Sum}, in(eight), of(l(2), 14, 22)},
		{api.Node{Op: api.Fold, A: l(0, 1, 2, 3), How: api.Prod}, in(four), of(nil, 24)},
		{api.Node{Op: api.Fold, A: l(1), How: api.Least}, in(four), of(l(1, 1, 2), 1, 2)},
		{api.Node{Op: api.Dot, A: l(0)}, in(of(l(2), 1, 2), of(l(2), 3, 4)), of(nil, 11)},
		{api.Node{Op: api.Dot, A: l(0)}, in(eight, of(l(2), 1, 10)), of(l(2, 2), 21, 43, 65, 87)},
		{api.Node{Op: api.Dot, A: l(1)}, in(eight, eight), of(l(2, 2, 2), 7, 10, 15, 22, 67, 78, 91, 106)},
		{api.Node{Op: api.Window, A: l(0, 2, 2), How: api.Sum}, in(of(l(4), 1, 2, 3, 4)), of(l(2), 3, 7)},
		{api.Node{Op: api.Window, A: l(1, 1, 2), How: api.Sum}, in(eight), of(l(2, 1, 2), 1, 2, 5, 6)},
		{api.Node{Op: api.Window, A: l(3, 2, 1), How: api.Least}, in(four), of(l(1, 2, 1, 1), 1, 3)},
	} {
		answered(t, c.n, c.in, c.want)
	}
}

// someShapes: ones of ranks 0 to 4, lengths of 0 and 1 among them.
var someShapes = [][]int{
	nil,
	{0}, {1}, {2}, {5},
	{2, 3}, {3, 2}, {1, 4}, {0, 3}, {3, 0}, {3, 3},
	{2, 3, 4}, {3, 1, 2}, {2, 2, 2}, {2, 0, 3},
	{2, 3, 4, 5}, {3, 1, 2, 2}, {2, 2, 2, 2}, {2, 3, 0, 2},
}

// greatShapes: ones of MaxElems numbers, or of none though other lengths are great.
var greatShapes = [][]int{{32}, {32, 32}, {32, 4, 32}, {8, 8, 8, 8}, {32, 32, 32, 0}}

// eachList hands over each list of n of the numbers, a new one each time.
func eachList(n int, numbers []int, look func(l []int)) {
	all := [][]int{nil}
	for range n {
		var longer [][]int
		for _, a := range all {
			for _, k := range numbers {
				longer = append(longer, append(slices.Clone(a), k))
			}
		}
		all = longer
	}
	for _, a := range all {
		look(a)
	}
}

// asSaidOf holds n against what the chapter says, where it takes tensors of those shapes, of each maker.
func asSaidOf(t *testing.T, n api.Node, shapes ...[]int) {
	t.Helper()
	if _, why := graph.Shape(n, shapes); why != api.OK {
		refused(t, n, ofAll(shapes, makers()[0]), why)
		stop(t)
		return
	}
	for _, m := range makers() {
		asSaid(t, n, ofAll(shapes, m))
	}
}

// TestNumberByNumber: Fill to Select, of all those shapes.
func TestNumberByNumber(t *testing.T) {
	for _, s := range slices.Concat(someShapes, greatShapes) {
		for _, n := range append([]int64{7, -3}, ends...) {
			asSaidOf(t, api.Node{Op: api.Fill, Shape: s, N: n})
		}
		for axis := -1; axis <= 4; axis++ {
			asSaidOf(t, api.Node{Op: api.Iota, Shape: s, A: l(axis)})
		}
		for op := api.Neg; op <= api.Select; op++ {
			for many := range 4 {
				asSaidOf(t, api.Node{Op: op}, slices.Repeat([][]int{s}, many)...)
			}
			for _, other := range someShapes {
				asSaidOf(t, api.Node{Op: op}, s, other)
				asSaidOf(t, api.Node{Op: op}, s, s, other)
				asSaidOf(t, api.Node{Op: op}, s, other, s)
			}
		}
	}
}

// TestMoved: Turn to Join, of all those shapes, by many lists, ones that may not be among them.
func TestMoved(t *testing.T) {
	for _, s := range someShapes {
		rank := len(s)
		eachList(rank, l(0, 1, 2, 3), func(a []int) { asSaidOf(t, api.Node{Op: api.Turn, A: a}, s) })
		for _, into := range someShapes {
			eachList(rank, l(0, 1, 2, 3), func(a []int) {
				if slices.IsSorted(a) {
					asSaidOf(t, api.Node{Op: api.Spread, Shape: into, A: a}, s)
				}
			})
		}
		eachList(2*rank, l(0, 1, 2)[:max(1, min(3, 7-rank))], func(a []int) {
			if rank < 4 || a[0] < 2 && a[7] > 0 {
				asSaidOf(t, api.Node{Op: api.Slice, A: a}, s)
			}
			if rank < 3 || slices.Max(a) < 2 {
				asSaidOf(t, api.Node{Op: api.Pad, A: a, N: -9}, s)
			}
		})
		whole := append(make([]int, rank), s...)
		asSaidOf(t, api.Node{Op: api.Slice, A: whole}, s)
		for _, other := range someShapes {
			for axis := -1; axis <= 4; axis++ {
				asSaidOf(t, api.Node{Op: api.Join, A: l(axis)}, s, other)
				asSaidOf(t, api.Node{Op: api.Join, A: l(axis)}, s, other, s)
			}
		}
	}
}

// TestGathered: Fold, Dot and Window, of all those shapes.
func TestGathered(t *testing.T) {
	for _, s := range someShapes {
		for how := range 6 {
			for many := range 5 {
				eachList(many, l(0, 1, 2, 3), func(a []int) {
					if slices.IsSorted(a) {
						asSaidOf(t, api.Node{Op: api.Fold, A: a, How: how}, s)
					}
				})
			}
			for axis := range 4 {
				for _, wide := range l(0, 1, 2, 3, 32) {
					for _, apart := range l(0, 1, 2, 32) {
						asSaidOf(t, api.Node{Op: api.Window, A: l(axis, wide, apart), How: how}, s)
					}
				}
			}
		}
		for _, other := range someShapes {
			for n := -1; n <= 4; n++ {
				asSaidOf(t, api.Node{Op: api.Dot, A: l(n)}, s, other)
			}
		}
	}
	asSaidOf(t, api.Node{Op: api.Dot, A: l(1)}, l(4, 32, 32), l(4, 32, 32))
	asSaidOf(t, api.Node{Op: api.Dot, A: l(0)}, l(32, 32), l(32, 32))
	asSaidOf(t, api.Node{Op: api.Window, A: l(1, 3, 1), How: api.Sum}, l(32, 4, 32))
	asSaidOf(t, api.Node{Op: api.Fold, A: l(1), How: api.Prod}, l(8, 32, 4))
}

// TestOfNoNumbers: tensors of none, by hand; what is folded of none is None.
func TestOfNoNumbers(t *testing.T) {
	none, rows, columns := of(l(0)), of(l(2, 0)), of(l(0, 3))
	for _, c := range []struct {
		n    api.Node
		in   []api.Tensor
		want api.Tensor
	}{
		{api.Node{Op: api.Fill, Shape: l(0), N: 5}, nil, none},
		{api.Node{Op: api.Iota, Shape: l(2, 0), A: l(0)}, nil, rows},
		{api.Node{Op: api.Neg}, in(none), none},
		{api.Node{Op: api.Mul}, in(rows, rows), rows},
		{api.Node{Op: api.Select}, in(columns, columns, columns), columns},
		{api.Node{Op: api.Turn, A: l(1, 0)}, in(columns), of(l(3, 0))},
		{api.Node{Op: api.Spread, Shape: l(2, 0), A: l(1)}, in(none), rows},
		{api.Node{Op: api.Slice, A: l(1, 0, 0, 3)}, in(of(l(2, 3), 1, 2, 3, 4, 5, 6)), columns},
		{api.Node{Op: api.Pad, A: l(1, 2), N: 4}, in(none), of(l(3), 4, 4, 4)},
		{api.Node{Op: api.Join, A: l(1)}, in(rows, of(l(2, 1), 8, 9), rows), of(l(2, 1), 8, 9)},
		{api.Node{Op: api.Join, A: l(0)}, in(none, none), none},
		{api.Node{Op: api.Fold, A: l(1), How: api.Sum}, in(rows), of(l(2), 0, 0)},
		{api.Node{Op: api.Fold, A: l(1), How: api.Prod}, in(rows), of(l(2), 1, 1)},
		{api.Node{Op: api.Fold, A: l(0), How: api.Least}, in(none), of(nil, great)},
		{api.Node{Op: api.Fold, A: l(0), How: api.Most}, in(none), of(nil, least)},
		{api.Node{Op: api.Fold, A: l(0), How: api.Most}, in(rows), none},
		{api.Node{Op: api.Dot, A: l(0)}, in(rows, columns), of(l(2, 3), 0, 0, 0, 0, 0, 0)},
		{api.Node{Op: api.Dot, A: l(0)}, in(columns, of(l(3), 1, 2, 3)), none},
		{api.Node{Op: api.Window, A: l(0, 2, 1), How: api.Sum}, in(of(l(1), 5)), none},
		{api.Node{Op: api.Window, A: l(0, 1, 1), How: api.Sum}, in(rows), rows},
	} {
		answered(t, c.n, c.in, c.want)
	}
}

// TestAtEnds: numbers at both ends of int64, by hand; sums and products go round.
func TestAtEnds(t *testing.T) {
	both := of(l(2), great, least)
	for _, c := range []struct {
		n    api.Node
		in   []api.Tensor
		want []int64
	}{
		{api.Node{Op: api.Fill, Shape: l(2), N: least}, nil, []int64{least, least}},
		{api.Node{Op: api.Neg}, in(both), []int64{-great, least}},
		{api.Node{Op: api.Not}, in(both), []int64{0, 0}},
		{api.Node{Op: api.Add}, in(both, both), []int64{-2, 0}},
		{api.Node{Op: api.Add}, in(both, of(l(2), 1, -1)), []int64{least, great}},
		{api.Node{Op: api.Sub}, in(both, of(l(2), -1, 1)), []int64{least, great}},
		{api.Node{Op: api.Mul}, in(both, both), []int64{1, 0}},
		{api.Node{Op: api.Mul}, in(both, of(l(2), 2, -1)), []int64{-2, least}},
		{api.Node{Op: api.Min}, in(both, of(l(2), least, great)), []int64{least, least}},
		{api.Node{Op: api.Max}, in(both, of(l(2), least, great)), []int64{great, great}},
		{api.Node{Op: api.Less}, in(both, of(l(2), least, great)), []int64{0, 1}},
		{api.Node{Op: api.Less}, in(of(l(2), least, 1), of(l(2), 1, least)), []int64{1, 0}},
		{api.Node{Op: api.Select}, in(both, both, of(l(2), 1, 1)), []int64{great, least}},
		{api.Node{Op: api.Select}, in(of(l(2), 1<<32, 1<<63-1<<32), both, of(l(2), 1, 1)), []int64{great, least}},
		{api.Node{Op: api.Join, A: l(0)}, in(of(l(1), least), of(l(1), great)), []int64{least, great}},
		{api.Node{Op: api.Fold, A: l(1), How: api.Sum}, in(of(l(2, 2), great, great, least, least)), []int64{-2, 0}},
		{api.Node{Op: api.Fold, A: l(1), How: api.Prod}, in(of(l(2, 2), great, great, 1<<32, 1<<32)), []int64{1, 0}},
		{api.Node{Op: api.Fold, A: l(1), How: api.Least}, in(of(l(2, 2), great, least, great, great)), []int64{least, great}},
		{api.Node{Op: api.Fold, A: l(1), How: api.Most}, in(of(l(2, 2), great, least, least, least)), []int64{great, least}},
		{api.Node{Op: api.Dot, A: l(0)}, in(of(l(2, 2), great, great, least, 1), of(l(2), great, 1)), []int64{least, least + 1}},
		{api.Node{Op: api.Window, A: l(0, 2, 1), How: api.Sum}, in(of(l(3), great, 1, least)), []int64{least, least + 1}},
		{api.Node{Op: api.Window, A: l(0, 2, 1), How: api.Prod}, in(of(l(3), great, 2, least)), []int64{-2, 0}},
	} {
		answered(t, c.n, c.in, of(l(2), c.want...))
	}
	answered(t, api.Node{Op: api.Pad, A: l(1, 1), N: least}, in(of(l(1), great)), of(l(3), least, great, least))
}

// TestNodeOfParam: ErrNone, of any shape that may be, behind graph.Shape's refusals.
func TestNodeOfParam(t *testing.T) {
	for _, s := range slices.Concat(someShapes, greatShapes) {
		for _, none := range [][]api.Tensor{nil, {}} {
			refused(t, api.Node{Op: api.Param, Shape: s}, none, api.ErrNone)
			refused(t, api.Node{Op: api.Param, Shape: s, In: l(0), Note: "x"}, none, api.ErrNone)
		}
	}
	for _, s := range [][]int{{33}, {-1}, {32, 32, 5}, {1, 1, 1, 1, 1}, {math.MaxInt}} {
		refused(t, api.Node{Op: api.Param, Shape: s}, nil, api.ErrShape)
		refused(t, api.Node{Op: api.Param, Shape: s, N: 1}, nil, api.ErrArg)
	}
	refused(t, api.Node{Op: api.Param, Shape: l(2), A: l(0)}, nil, api.ErrArg)
	refused(t, api.Node{Op: api.Param, Shape: l(2), N: -1}, nil, api.ErrArg)
	refused(t, api.Node{Op: api.Param, Shape: l(2), How: api.Sum}, nil, api.ErrArg)
	refused(t, api.Node{Op: api.Param}, in(of(nil, 5)), api.ErrArg)
	refused(t, api.Node{Op: api.Param, Shape: l(2)}, in(of(l(2), 1, 2)), api.ErrArg)
	refused(t, api.Node{Op: api.Param, Shape: l(2)}, in(of(l(2), 1)), api.ErrShape)
}

// wrongTensors: shapes that may not be, with as many numbers as they ask or none, and shapes that may be, with too few numbers or too many.
func wrongTensors() []api.Tensor {
	return []api.Tensor{
		{},
		of(nil, 1, 2),
		of(l(2)),
		of(l(2), 1),
		of(l(2), 1, 2, 3),
		of(l(0), 1),
		of(l(2, 3), 1, 2, 3, 4, 5),
		of(l(2, 3), 1, 2, 3, 4, 5, 6, 7),
		of(l(2, 3)),
		{Shape: l(32, 32, 4), Data: make([]int64, 4095)},
		{Shape: l(32, 32, 4), Data: make([]int64, 4097)},
		counted(1, 1, 1, 1, 1, 1),
		counted(1, 0, 0, 0, 0, 0),
		counted(1, 33),
		counted(1, 0, 33),
		counted(1, 32, 32, 5),
		of(l(-1)),
		of(l(-1), 1),
		of(l(-1, -1), 1),
		of(l(-2, -3), 1, 2, 3, 4, 5, 6),
		of(l(0, -1)),
		of(l(math.MaxInt), 1),
		of(l(math.MinInt)),
		of(l(half, 4)),
	}
}

// faulty are c and others that ask wrongly: of another op, of what is not asked for, of another A, How, Shape.
func (c call) faulty() []api.Node {
	all := []api.Node{c.n, {Op: c.n.Op}}
	change := func(do func(n *api.Node)) {
		n := c.n
		do(&n)
		all = append(all, n)
	}
	for _, op := range l(0, -1, 99, math.MaxInt) {
		change(func(n *api.Node) { n.Op = op })
	}
	for _, list := range [][]int{nil, {0}, {1}, {5}, {-1}, {33}, {2, 3}, {0, 0}, {1, 0}, {0, 1, 2}, {5, 5, 5}, {0, 0, 0, 0, 0, 0, 0, 0, 0}, {math.MaxInt}, {math.MinInt, math.MaxInt}, {half, half}, {0, half, 2, half}, {0, 0, 3, 3}, {32, 0, 32, 0}, {0, 0, 0, 33}} {
		change(func(n *api.Node) { n.A = list })
		change(func(n *api.Node) { n.Shape = list })
		change(func(n *api.Node) { n.A, n.Shape = list, list })
	}
	for _, how := range l(0, api.Sum, api.Prod, api.Least, api.Most, 5, -1, math.MaxInt) {
		change(func(n *api.Node) { n.How = how })
	}
	for _, number := range []int64{0, 1, -1, great, least} {
		change(func(n *api.Node) { n.N = number })
	}
	return all
}

// TestWrongTensors: ErrShape, in whichever place, ahead of all else: of what is no op, of another number of them, of all that is asked wrongly.
func TestWrongTensors(t *testing.T) {
	for _, c := range instances() {
		for _, n := range c.faulty() {
			for _, wrong := range wrongTensors() {
				refused(t, n, in(wrong), api.ErrShape)
				refused(t, n, append(slices.Clone(c.in), wrong), api.ErrShape)
				refused(t, n, append(in(wrong, wrong), c.in...), api.ErrShape)
				for i := range c.in {
					x := slices.Clone(c.in)
					x[i] = wrong
					refused(t, n, x, api.ErrShape)
				}
				stop(t)
			}
		}
	}
}

// TestRefusals: graph.Shape's are handed on, whatever it is that a node asks wrongly.
func TestRefusals(t *testing.T) {
	var seen [26]int
	for _, c := range instances() {
		for _, n := range c.faulty() {
			for many := range 5 {
				x := slices.Repeat(in(of(l(2, 3), 1, 2, 3, 4, 5, 6)), many)
				seen[asSaid(t, n, x)]++
				seen[asSaid(t, n, slices.Repeat(in(of(nil, 5)), many))]++
				seen[asSaid(t, n, append(x, of(l(3), 1, 2, 3)))]++
			}
			seen[asSaid(t, n, c.in)]++
		}
	}
	for _, why := range []api.Errno{api.OK, api.ErrArg, api.ErrShape, api.ErrNone} {
		if seen[why] == 0 {
			t.Errorf("%d is never answered", int(why))
		}
	}
}

// TestEachRefusal: one of each, by hand.
func TestEachRefusal(t *testing.T) {
	x, y := of(l(2, 3), 1, 2, 3, 4, 5, 6), of(l(3, 2), 1, 2, 3, 4, 5, 6)
	wide := of(l(32, 32, 32, 0))
	for _, c := range []struct {
		n    api.Node
		in   []api.Tensor
		want api.Errno
	}{
		{api.Node{Op: api.Fill, Shape: l(33)}, nil, api.ErrShape},
		{api.Node{Op: api.Iota, Shape: l(33), A: l(5)}, nil, api.ErrShape},
		{api.Node{Op: api.Iota, Shape: l(3), A: l(1)}, nil, api.ErrArg},
		{api.Node{Op: api.Iota, Shape: l(3)}, nil, api.ErrArg},
		{api.Node{Op: api.Neg}, nil, api.ErrArg},
		{api.Node{Op: api.Not}, in(x, x), api.ErrArg},
		{api.Node{Op: api.Add}, in(x), api.ErrArg},
		{api.Node{Op: api.Sub}, in(x, y), api.ErrShape},
		{api.Node{Op: api.Mul, N: 1}, in(x, y), api.ErrArg},
		{api.Node{Op: api.Select}, in(x, x, y), api.ErrShape},
		{api.Node{Op: api.Select}, in(x, x), api.ErrArg},
		{api.Node{Op: api.Turn, A: l(0, 0)}, in(x), api.ErrArg},
		{api.Node{Op: api.Spread, Shape: l(33), A: l(7)}, in(x), api.ErrShape},
		{api.Node{Op: api.Spread, Shape: l(3, 2), A: l(0, 1)}, in(x), api.ErrArg},
		{api.Node{Op: api.Slice, A: l(0, 0, 2, 4)}, in(x), api.ErrArg},
		{api.Node{Op: api.Slice, A: l(0, 0, 2)}, in(x), api.ErrArg},
		{api.Node{Op: api.Pad, A: l(0, 0, 0, 33)}, in(x), api.ErrArg},
		{api.Node{Op: api.Pad, A: l(0, 0, 0, 32)}, in(x), api.ErrShape},
		{api.Node{Op: api.Join, A: l(0)}, in(x), api.ErrArg},
		{api.Node{Op: api.Join, A: l(2)}, in(x, y), api.ErrArg},
		{api.Node{Op: api.Join, A: l(0)}, in(x, y), api.ErrShape},
		{api.Node{Op: api.Fold, A: l(0)}, in(x), api.ErrArg},
		{api.Node{Op: api.Fold, A: l(1, 0), How: api.Sum}, in(x), api.ErrArg},
		{api.Node{Op: api.Fold, A: l(3), How: api.Sum}, in(wide), api.ErrShape},
		{api.Node{Op: api.Dot, A: l(0)}, in(x, x), api.ErrShape},
		{api.Node{Op: api.Dot, A: l(2)}, in(x, x), api.ErrArg},
		{api.Node{Op: api.Window, A: l(2, 1, 1), How: api.Sum}, in(x), api.ErrArg},
		{api.Node{Op: api.Window, A: l(0, 0, 1), How: api.Sum}, in(x), api.ErrArg},
		{api.Node{Op: api.Window, A: l(0, 1, 1), How: 5}, in(x), api.ErrArg},
		{api.Node{Op: 0}, nil, api.ErrArg},
		{api.Node{}, in(x), api.ErrArg},
	} {
		refused(t, c.n, c.in, c.want)
	}
}

// TestInAndNote: Node does not ask which nodes they are, nor for the note.
func TestInAndNote(t *testing.T) {
	want := answers()
	for i, c := range instances()[1:] {
		for _, in := range [][]int{nil, l(0), l(-1, 7), l(math.MinInt), l(1, 2, 3, 4, 5)} {
			for _, note := range []string{"", "zz", "\xff", strings.Repeat(".", 99)} {
				c.n.In, c.n.Note = in, note
				answered(t, c.n, c.in, want[i+1])
			}
		}
	}
}

// TestTakenTwice: a tensor that stands in more than one place is taken in each.
func TestTakenTwice(t *testing.T) {
	x := of(l(2, 2), 1, -2, 3, 0)
	answered(t, api.Node{Op: api.Sub}, in(x, x), of(l(2, 2), 0, 0, 0, 0))
	answered(t, api.Node{Op: api.Select}, in(x, x, x), x)
	answered(t, api.Node{Op: api.Join, A: l(0)}, in(x, x), of(l(4, 2), 1, -2, 3, 0, 1, -2, 3, 0))
	answered(t, api.Node{Op: api.Dot, A: l(0)}, in(x, x), of(l(2, 2), -5, -2, 3, -6))
}

// roomy makes a list with spare room that is full of n.
func roomy[T any](n T, l ...T) []T {
	r := slices.Grow(slices.Clone(l), 6)
	for i := range r[len(l):cap(r)] {
		r[len(l):cap(r)][i] = n
	}
	return r
}

// scribble writes over all of a list's room.
func scribble[T any](l []T, n T) {
	l = l[:cap(l)]
	for i := range l {
		l[i] = n
	}
}

// roomyTensors makes l anew, its lists with spare room that is full of n, and of tensors like x.
func roomyTensors(l []api.Tensor, n int, x api.Tensor) []api.Tensor {
	r := roomy(x, l...)
	for i, t := range l {
		r[i] = api.Tensor{Shape: roomy(n, t.Shape...), Data: roomy(int64(n), t.Data...)}
	}
	return r
}

// roomyNode makes n anew, its lists with spare room that is full of k.
func roomyNode(n api.Node, k int) api.Node {
	n.In, n.Shape, n.A = roomy(k, n.In...), roomy(k, n.Shape...), roomy(k, n.A...)
	return n
}

// wholeNode is all of n, its spare room included, as a text.
func wholeNode(n api.Node) string {
	n.In, n.Shape, n.A = n.In[:cap(n.In)], n.Shape[:cap(n.Shape)], n.A[:cap(n.A)]
	return fmt.Sprintf("%+v", n)
}

// whole is all of some tensors, their spare room included, as a text.
func whole(l []api.Tensor) string {
	l = slices.Clone(l[:cap(l)])
	for i, t := range l {
		l[i] = api.Tensor{Shape: t.Shape[:cap(t.Shape)], Data: t.Data[:cap(t.Data)]}
	}
	return fmt.Sprint(l)
}

// overwrite writes over all room of the tensors' lists, and over the list itself.
func overwrite(l []api.Tensor) {
	for _, t := range l[:cap(l)] {
		scribble(t.Shape, -77)
		scribble(t.Data, -77)
	}
	scribble(l, api.Tensor{Shape: []int{-77}})
}

// copies are calls that could hand out what they are handed in, as nothing is changed by them.
func copies() []call {
	x, c := of(l(2, 3), 1, 2, 3, 4, 5, 6), of(l(2, 3), 1, 1, 1, 1, 1, 1)
	none := of(l(0, 3))
	return []call{
		{api.Node{Op: api.Select}, in(c, x, c)},
		{api.Node{Op: api.Turn, A: l(0, 1)}, in(x)},
		{api.Node{Op: api.Turn}, in(of(nil, 5))},
		{api.Node{Op: api.Spread, Shape: l(2, 3), A: l(0, 1)}, in(x)},
		{api.Node{Op: api.Slice, A: l(0, 0, 2, 3)}, in(x)},
		{api.Node{Op: api.Pad, A: l(0, 0, 0, 0)}, in(x)},
		{api.Node{Op: api.Join, A: l(0)}, in(none, x)},
		{api.Node{Op: api.Join, A: l(0)}, in(x, none, none)},
		{api.Node{Op: api.Fold, How: api.Sum}, in(x)},
		{api.Node{Op: api.Window, A: l(1, 1, 1), How: api.Most}, in(x)},
	}
}

// someCalls: answered ones and refused ones of each op.
func someCalls() []call {
	var all []call
	for _, c := range append(instances(), copies()...) {
		for _, n := range c.faulty() {
			all = append(all, call{n, c.in})
		}
		all = append(all, call{c.n, append(slices.Clone(c.in), of(l(2), 1))}, call{c.n, slices.Repeat(in(of(nil, 3)), len(c.in))})
	}
	return all
}

// TestCopies: what is not changed is told as it is.
func TestCopies(t *testing.T) {
	for _, c := range copies() {
		want := c.in[0]
		if c.n.Op == api.Select || len(want.Data) == 0 {
			want = c.in[1]
		}
		answered(t, c.n, c.in, want)
	}
}

// TestHandedInIsKept: Node changes nothing that it is handed, spare room included, be it refused or not; it keeps none of it, and its answers are new memory (R2, R3).
func TestHandedInIsKept(t *testing.T) {
	for _, c := range someCalls() {
		n, x := roomyNode(c.n, 1), roomyTensors(c.in, 1, of(l(1), 1))
		before := wholeNode(n) + whole(x)
		first, why := eval.Node(n, x)
		second, _ := eval.Node(n, x)
		if wholeNode(n)+whole(x) != before {
			t.Errorf("Node(%+v, %v): changed what is handed in", c.n, c.in)
		}
		saved := whole(in(second))
		overwrite(in(first))
		if wholeNode(n)+whole(x) != before || whole(in(second)) != saved {
			t.Errorf("Node(%+v, %v): the answer shares memory", c.n, c.in)
		}
		overwrite(x)
		for _, s := range [][]int{n.In, n.Shape, n.A} {
			scribble(s, -77)
		}
		if whole(in(second)) != saved {
			t.Errorf("Node(%+v, %v): what is handed in is kept", c.n, c.in)
		}
		if want, refusal := says(c.n, c.in); why != refusal || !alike(second, want) {
			t.Errorf("Node(%+v, %v): %v, %d, not %v, %d", c.n, c.in, second, int(why), want, int(refusal))
		}
	}
}

// TestSpareRoom: what lies behind a list does not change what is answered (R5).
func TestSpareRoom(t *testing.T) {
	for _, c := range someCalls() {
		for _, k := range []int{0, 1, 2, -1, math.MaxInt} {
			n := roomyNode(c.n, k)
			want, why := says(c.n, c.in)
			if got, refusal := eval.Node(n, roomyTensors(c.in, k, of(l(2, 3), 1, 2, 3, 4, 5, 6))); refusal != why || !alike(got, want) {
				t.Errorf("Node(%+v, %v), with spare room of %d: %v, %d, not %v, %d", c.n, c.in, k, got, int(refusal), want, int(why))
			}
		}
	}
}

// TestNilAndEmpty: they mean the same (R4).
func TestNilAndEmpty(t *testing.T) {
	for _, c := range append(someCalls(), call{api.Node{Op: api.Neg}, in(of(l(0)))}, call{api.Node{Op: api.Not}, in(of(nil, 5))}) {
		want, why := says(c.n, c.in)
		for _, none := range [][]int{nil, {}, roomy(1)} {
			n, x := c.n, slices.Clone(c.in)
			for _, s := range []*[]int{&n.In, &n.Shape, &n.A} {
				if len(*s) == 0 {
					*s = none
				}
			}
			for i, t := range x {
				if len(t.Shape) == 0 {
					x[i].Shape = none
				}
				if len(t.Data) == 0 && none != nil {
					x[i].Data = roomy[int64](9)
				}
			}
			if len(x) == 0 && none != nil {
				x = roomy(of(l(1), 1))
			}
			if got, refusal := eval.Node(n, x); refusal != why || !alike(got, want) {
				t.Errorf("Node(%+v, %v): %v, %d, not %v, %d", n, x, got, int(refusal), want, int(why))
			}
		}
	}
}

// TestLongLists: Node ends, of long lists too (R1).
func TestLongLists(t *testing.T) {
	const long = 1 << 18
	none, x := of(l(0)), of(l(2, 3), 1, 2, 3, 4, 5, 6)
	many := slices.Repeat(in(none), long)
	for _, c := range instances() {
		if c.n.Op != api.Join {
			refused(t, c.n, many, api.ErrArg)
		}
		refused(t, c.n, append(slices.Clone(many), api.Tensor{}), api.ErrShape)
		for _, k := range []int{0, 1, -1, math.MaxInt, math.MinInt} {
			list := slices.Repeat(l(k), long)
			refused(t, c.n, in(of(list)), api.ErrShape)
			refused(t, c.n, in(api.Tensor{Shape: l(2), Data: make([]int64, long)}), api.ErrShape)
			n := c.n
			n.A = list
			if got, why := eval.Node(n, c.in); why != api.ErrArg || !nothing(got) {
				t.Errorf("Node of op %d, a long A of %d: %d", n.Op, k, int(why))
			}
			n = c.n
			n.Shape = list
			if got, why := eval.Node(n, c.in); why == api.OK || !nothing(got) {
				t.Errorf("Node of op %d, a long Shape of %d: %d", n.Op, k, int(why))
			}
			n = c.n
			n.In, n.Note = list, strings.Repeat("x", long)
			if _, why := eval.Node(n, c.in); why != api.OK && n.Op != api.Param {
				t.Errorf("Node of op %d, a long In of %d: %d", n.Op, k, int(why))
			}
		}
	}
	join := api.Node{Op: api.Join, A: l(0)}
	answered(t, join, many, none)
	answered(t, join, append(slices.Clone(many), of(l(1), 7)), of(l(1), 7))
	refused(t, join, append(slices.Clone(many), x), api.ErrShape)
	refused(t, join, slices.Repeat(in(x), long), api.ErrShape)
}
