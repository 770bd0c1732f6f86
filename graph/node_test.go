// Tests of P10.1, and of the rules R1 to R5 for Shape.
package graph_test

import (
	"math"
	"slices"
	"strings"
	"testing"

	"parquetry/api"
	"parquetry/axes"
	"parquetry/dot"
	"parquetry/fold"
	"parquetry/graph"
	"parquetry/point"
	"parquetry/tensor"
	"parquetry/window"
)

const (
	great = math.MaxInt64
	least = math.MinInt64
)

// half is a number that, taken twice, goes round.
const half = math.MaxInt/2 + 1

// far: numbers that are no axis, no length, no node and no way to fold, such as would be one if they were cut short or went round.
var far = []int{-1, -2, -3, -4, -32, -256, 33, 34, 64, 256, 257, 1 << 16, 1<<16 + 1, 1 << 31, 1 << 32, 1<<32 + 1, 1<<32 + 2, -1 << 32, 1 - 1<<32, half, half + 1, -half, math.MaxInt - 31, math.MaxInt - 1, math.MaxInt, math.MinInt, math.MinInt + 1, math.MinInt + 31}

// rule: how many nodes an op takes at least and at most, and which letters it asks for: s Shape, a A, n N, h How.
type rule struct {
	op, from, to int
	asks         string
}

// many: more than any list of these tests has.
const many = math.MaxInt

// rules are the table of ops.
var rules = []rule{
	{api.Param, 0, 0, "s"}, {api.Fill, 0, 0, "sn"}, {api.Iota, 0, 0, "sa"},
	{api.Neg, 1, 1, ""}, {api.Not, 1, 1, ""},
	{api.Add, 2, 2, ""}, {api.Sub, 2, 2, ""}, {api.Mul, 2, 2, ""}, {api.Min, 2, 2, ""}, {api.Max, 2, 2, ""}, {api.Less, 2, 2, ""},
	{api.Select, 3, 3, ""},
	{api.Turn, 1, 1, "a"}, {api.Spread, 1, 1, "sa"}, {api.Slice, 1, 1, "a"}, {api.Pad, 1, 1, "an"}, {api.Join, 2, many, "a"},
	{api.Fold, 1, 1, "ah"}, {api.Dot, 2, 2, "a"}, {api.Window, 1, 1, "ah"},
}

// otherOps: numbers that are no op.
var otherOps = append([]int{0, -1, api.Window + 1, api.Window + 2, 32, 48, 64, 99}, far...)

func l(n ...int) []int { return n }

func in(s ...[]int) [][]int { return s }

// call is what Shape is handed.
type call struct {
	n  api.Node
	in [][]int
}

// of makes a call.
func of(op int, in ...[]int) call { return call{api.Node{Op: op}, in} }

// s, a, h and n are c with that Shape, A, How or N.
func (c call) s(s ...int) call  { c.n.Shape = s; return c }
func (c call) a(a ...int) call  { c.n.A = a; return c }
func (c call) h(how int) call   { c.n.How = how; return c }
func (c call) num(n int64) call { c.n.N = n; return c }

// answered tells whether c answers that shape.
func (c call) answered(t *testing.T, want ...int) {
	t.Helper()
	if got, why := graph.Shape(c.n, c.in); why != api.OK || !slices.Equal(got, want) {
		t.Errorf("Shape(%+v, %v): %v, %d, not %v", c.n, c.in, got, int(why), want)
	}
}

// refused tells whether c answers that refusal, and nothing beside it.
func (c call) refused(t *testing.T, want api.Errno) {
	t.Helper()
	if got, why := graph.Shape(c.n, c.in); why != want || len(got) > 0 {
		t.Errorf("Shape(%+v, %v): %v, %d, not %d", c.n, c.in, got, int(why), int(want))
	}
}

// like tells whether c answers as want says: the shape, or the refusal.
func (c call) like(t *testing.T, want []int, why api.Errno) {
	t.Helper()
	if why != api.OK {
		c.refused(t, why)
		return
	}
	c.answered(t, want...)
}

// rightShape is what layer 1 says of shapes, asking nothing of the program.
func rightShape(s []int) bool {
	size := 1
	for _, length := range s {
		if length < 0 || length > 32 {
			return false
		}
		if len(s) <= 4 {
			size *= length
		}
	}
	return len(s) <= 4 && size <= 4096
}

// fitting tells, by the table of ops, whether c is such as its op asks.
func (c call) fitting() bool {
	for _, r := range rules {
		if r.op != c.n.Op {
			continue
		}
		has := map[string]bool{"s": len(c.n.Shape) > 0, "a": len(c.n.A) > 0, "n": c.n.N != 0, "h": c.n.How != 0}
		for letter, there := range has {
			if there && !strings.Contains(r.asks, letter) {
				return false
			}
		}
		return len(c.in) >= r.from && len(c.in) <= r.to
	}
	return false
}

// count is how many numbers c's A must have; -1 where any may be.
func (c call) count() int {
	switch c.n.Op {
	case api.Iota, api.Join, api.Dot:
		return 1
	case api.Slice, api.Pad:
		return 2 * len(c.in[0])
	case api.Window:
		return 3
	}
	return -1
}

// expected is what the chapter says of c: what it says itself, then as the layers above tell of tensors of those shapes.
func (c call) expected() ([]int, api.Errno) {
	if !c.fitting() {
		return nil, api.ErrArg
	}
	for _, s := range c.in {
		if !rightShape(s) {
			return nil, api.ErrShape
		}
	}
	if !rightShape(c.n.Shape) {
		return nil, api.ErrShape
	}
	if k := c.count(); k >= 0 && len(c.n.A) != k {
		return nil, api.ErrArg
	}
	var x []api.Tensor
	for _, s := range c.in {
		t, _ := tensor.Fill(s, 1)
		x = append(x, t)
	}
	t, why := c.made(x)
	return t.Shape, why
}

// made is what the layers above make of tensors.
func (c call) made(x []api.Tensor) (api.Tensor, api.Errno) {
	n := c.n
	rank := len(n.A) / 2
	switch n.Op {
	case api.Param, api.Fill:
		return tensor.Fill(n.Shape, n.N)
	case api.Iota:
		return tensor.Iota(n.Shape, n.A[0])
	case api.Neg, api.Not:
		return point.One(n.Op, x[0])
	case api.Select:
		return point.Pick(x[0], x[1], x[2])
	case api.Turn:
		return axes.Turn(x[0], n.A)
	case api.Spread:
		return axes.Spread(x[0], n.Shape, n.A)
	case api.Slice:
		return axes.Slice(x[0], n.A[:rank], n.A[rank:])
	case api.Pad:
		return axes.Pad(x[0], n.A[:rank], n.A[rank:], n.N)
	case api.Join:
		return axes.Join(n.A[0], x...)
	case api.Fold:
		return fold.Do(n.How, x[0], n.A)
	case api.Dot:
		return dot.Do(x[0], x[1], n.A[0])
	case api.Window:
		return window.Do(n.How, x[0], n.A[0], n.A[1], n.A[2])
	}
	return point.Two(n.Op, x[0], x[1])
}

// asExpected tells whether c answers as the chapter says.
func (c call) asExpected(t *testing.T) {
	t.Helper()
	want, why := c.expected()
	c.like(t, want, why)
}

// smallShapes: ones of ranks 0 to 4, lengths of 0 and 1 among them.
var smallShapes = [][]int{
	nil,
	{0}, {1}, {2}, {5},
	{2, 3}, {3, 2}, {1, 4}, {4, 1}, {0, 3}, {3, 0}, {0, 0}, {3, 3},
	{2, 3, 4}, {4, 1, 2}, {2, 2, 2}, {0, 2, 3}, {2, 0, 3}, {2, 3, 0},
	{2, 3, 4, 5}, {3, 1, 2, 2}, {1, 1, 1, 1}, {2, 2, 2, 2}, {0, 2, 3, 4}, {2, 3, 4, 0}, {0, 0, 0, 0},
}

// greatShapes: ones of MaxElems numbers, or of none though other lengths are great.
var greatShapes = [][]int{{32}, {32, 32}, {32, 4, 32}, {4, 32, 32}, {32, 32, 4}, {16, 16, 16}, {8, 8, 8, 8}, {1, 1, 1, 32}, {32, 32, 0}, {0, 32, 32, 32}, {32, 0, 32, 32}, {32, 32, 0, 32}, {32, 32, 32, 0}}

// wrongShapes: too long one way or in all, of a length below 0, of too many axes, and such as go round.
var wrongShapes = [][]int{
	{33}, {-1}, {1, 33}, {33, 1}, {0, 33}, {33, 0}, {0, -1}, {-1, -1}, {-2, -3}, {32, 32, 5}, {8, 27, 19}, {17, 241}, {32, 32, 32, 32},
	{1, 1, 1, 1, 1}, {0, 0, 0, 0, 0}, {2, 2, 2, 2, 2, 2},
	{math.MaxInt}, {math.MinInt}, {half, 4}, {half, 2, 2, 1}, {0, math.MaxInt}, {0, math.MinInt}, {1 << 32}, {1<<32 + 2}, {2, 1<<32 + 3},
}

func rightShapes() [][]int { return slices.Concat(smallShapes, greatShapes) }

// eachList hands over each list of 0 to most of those numbers, a new one each time.
func eachList(most int, numbers []int, look func(l []int)) {
	ahead := [][]int{nil}
	for k := range most + 1 {
		var behind [][]int
		for _, a := range ahead {
			look(slices.Clone(a))
			for _, n := range numbers {
				if k < most {
					behind = append(behind, append(slices.Clone(a), n))
				}
			}
		}
		ahead = behind
	}
}

// instances is one call of each op that is answered, with all that its op asks for told.
func instances() []call {
	s, t := l(2, 3), l(3, 2)
	return []call{
		of(api.Param).s(2, 3), of(api.Fill).s(2, 3).num(5), of(api.Iota).s(2, 3).a(1),
		of(api.Neg, s), of(api.Not, s),
		of(api.Add, s, s), of(api.Sub, s, s), of(api.Mul, s, s), of(api.Min, s, s), of(api.Max, s, s), of(api.Less, s, s),
		of(api.Select, s, s, s),
		of(api.Turn, s).a(1, 0), of(api.Spread, s).s(2, 4, 3).a(0, 2), of(api.Slice, s).a(0, 1, 2, 1), of(api.Pad, s).a(1, 0, 0, 2).num(7), of(api.Join, s, s).a(1),
		of(api.Fold, s).a(0).h(api.Most), of(api.Dot, s, t).a(0), of(api.Window, s).a(1, 2, 1).h(api.Prod),
	}
}

func TestShape(t *testing.T) {
	of(api.Param).answered(t)
	of(api.Param).s(2, 3).answered(t, 2, 3)
	of(api.Fill).s(4).answered(t, 4)
	of(api.Fill).s(2, 3, 4, 5).num(-1).answered(t, 2, 3, 4, 5)
	of(api.Iota).s(3, 4).a(1).answered(t, 3, 4)
	of(api.Neg, l()).answered(t)
	of(api.Not, l(4, 2)).answered(t, 4, 2)
	of(api.Add, l(2, 3), l(2, 3)).answered(t, 2, 3)
	of(api.Less, l(), l()).answered(t)
	of(api.Select, l(2), l(2), l(2)).answered(t, 2)
	of(api.Turn, l(2, 3)).a(1, 0).answered(t, 3, 2)
	of(api.Turn, l(2, 3, 4)).a(1, 2, 0).answered(t, 3, 4, 2)
	of(api.Turn, l(2, 3, 4, 5)).a(3, 0, 2, 1).answered(t, 5, 2, 4, 3)
	of(api.Spread, l()).s(2, 3).answered(t, 2, 3)
	of(api.Spread, l(3)).s(2, 3).a(1).answered(t, 2, 3)
	of(api.Spread, l(2, 4)).s(5, 2, 3, 4).a(1, 3).answered(t, 5, 2, 3, 4)
	of(api.Slice, l(2, 3)).a(1, 0, 1, 3).answered(t, 1, 3)
	of(api.Slice, l(5, 6, 7)).a(1, 2, 3, 4, 3, 2).answered(t, 4, 3, 2)
	of(api.Pad, l(2, 3)).a(1, 0, 2, 3).answered(t, 5, 6)
	of(api.Pad, l(1, 2, 3)).a(1, 2, 3, 4, 5, 6).num(9).answered(t, 6, 9, 12)
	of(api.Join, l(2, 3), l(1, 3)).a(0).answered(t, 3, 3)
	of(api.Join, l(2, 3), l(2, 1), l(2, 4)).a(1).answered(t, 2, 8)
	of(api.Fold, l(2, 3, 4)).a(0, 2).h(api.Prod).answered(t, 3)
	of(api.Fold, l(2, 3, 4, 5)).a(1).h(api.Sum).answered(t, 2, 4, 5)
	of(api.Fold, l(2, 3)).a(0, 1).h(api.Most).answered(t)
	of(api.Dot, l(2, 3), l(3, 4)).a(0).answered(t, 2, 4)
	of(api.Dot, l(5, 2, 3), l(5, 3, 4)).a(1).answered(t, 5, 2, 4)
	of(api.Dot, l(3), l(3)).a(0).answered(t)
	of(api.Window, l(2, 5)).a(1, 2, 2).h(api.Least).answered(t, 2, 2)
	of(api.Window, l(5, 2)).a(0, 3, 1).h(api.Sum).answered(t, 3, 2)
}

// TestEachOp: each op that has what it asks for is answered; no other number is an op.
func TestEachOp(t *testing.T) {
	for i, c := range instances() {
		if _, why := graph.Shape(c.n, c.in); why != api.OK {
			t.Errorf("op %d: %d", c.n.Op, int(why))
		}
		if c.n.Op != i+1 || rules[i].op != i+1 {
			t.Fatalf("op %d: at place %d", c.n.Op, i)
		}
		c.asExpected(t)
		for _, op := range otherOps {
			c.n.Op = op
			c.refused(t, api.ErrArg)
		}
	}
	for _, op := range otherOps {
		of(op).refused(t, api.ErrArg)
		of(op, l(33)).refused(t, api.ErrArg)
	}
}

// TestHowManyNodes: another number of them than the op takes is ErrArg, be they Right or not.
func TestHowManyNodes(t *testing.T) {
	for i, c := range instances() {
		for k := range 6 {
			for _, s := range [][]int{l(2, 3), l(33)} {
				x := call{c.n, slices.Repeat(in(s), k)}
				if k < rules[i].from || k > rules[i].to {
					x.refused(t, api.ErrArg)
				} else if k > 0 && !rightShape(s) {
					x.refused(t, api.ErrShape)
				}
			}
		}
	}
	of(api.Join, slices.Repeat(in(l(1, 3)), 32)...).a(0).answered(t, 32, 3)
	of(api.Join, slices.Repeat(in(l(0, 3)), 1<<16)...).a(0).answered(t, 0, 3)
}

// TestNotAskedFor: each thing that an op does not ask for, told alone, is ErrArg, be the shapes Right or not; what it asks for is not.
func TestNotAskedFor(t *testing.T) {
	numbers := append([]int{1, 2}, far...)
	for i, c := range instances() {
		wrong := call{c.n, slices.Repeat(in(l(33)), len(c.in))}
		told := map[string][]call{}
		for _, x := range []call{c, wrong} {
			for _, n := range numbers {
				told["s"] = append(told["s"], x.s(n), x.s(0), x.s(2, 3))
				told["a"] = append(told["a"], x.a(n), x.a(0), x.a(0, 1))
				told["n"] = append(told["n"], x.num(int64(n)), x.num(great), x.num(least))
				told["h"] = append(told["h"], x.h(n), x.h(api.Sum))
			}
		}
		for letter, calls := range told {
			for _, x := range calls {
				if !strings.Contains(rules[i].asks, letter) {
					x.refused(t, api.ErrArg)
				} else {
					x.asExpected(t)
				}
			}
		}
	}
}

// TestInAndNote: Shape does not ask which nodes they are, nor for the note.
func TestInAndNote(t *testing.T) {
	for _, c := range instances() {
		want, _ := graph.Shape(c.n, c.in)
		for _, in := range [][]int{nil, l(0), l(-1, 7), l(math.MinInt), l(1, 2, 3, 4, 5)} {
			for _, note := range []string{"", "zz", "\xff", strings.Repeat(".", 99)} {
				c.n.In, c.n.Note = in, note
				c.answered(t, want...)
			}
		}
	}
}

// TestNumberOfFill: N is any number where it is asked for.
func TestNumberOfFill(t *testing.T) {
	for _, n := range []int64{0, 1, -1, great, least} {
		of(api.Fill).s(2, 3).num(n).answered(t, 2, 3)
		of(api.Pad, l(2)).a(1, 2).num(n).answered(t, 5)
	}
}

// TestWrongShapes: of a node that is taken, whichever, and of the node's own: ErrShape, ahead of another count of A, of its bounds, and of How.
func TestWrongShapes(t *testing.T) {
	for i, c := range instances() {
		for _, s := range wrongShapes {
			for k := range c.in {
				x := call{c.n, slices.Clone(c.in)}
				x.in[k] = s
				x.refused(t, api.ErrShape)
				if strings.Contains(rules[i].asks, "a") {
					x.a().refused(t, api.ErrShape)
					x.a(0, 0, 0, 0, 0, 0, 0, 0, 0).refused(t, api.ErrShape)
					x.a(-1).refused(t, api.ErrShape)
					x.a(math.MaxInt, math.MinInt).refused(t, api.ErrShape)
				}
				if strings.Contains(rules[i].asks, "h") {
					x.h(0).refused(t, api.ErrShape)
					x.h(5).a().refused(t, api.ErrShape)
				}
			}
			if strings.Contains(rules[i].asks, "s") {
				c.s(s...).refused(t, api.ErrShape)
			}
			if strings.Contains(rules[i].asks, "sa") {
				c.s(s...).a().refused(t, api.ErrShape)
				c.s(s...).a(0, 1, 2, 3, 4).refused(t, api.ErrShape)
				c.s(s...).a(-1).refused(t, api.ErrShape)
				c.s(s...).a(math.MaxInt).refused(t, api.ErrShape)
			}
		}
	}
}

// TestOwnShapes: Param and Fill are of any shape that may be, Iota and Spread of rank 0 too.
func TestOwnShapes(t *testing.T) {
	for _, s := range slices.Concat(rightShapes(), wrongShapes) {
		want := api.OK
		if !rightShape(s) {
			want = api.ErrShape
		}
		of(api.Param).s(s...).like(t, s, want)
		of(api.Fill).s(s...).num(3).like(t, s, want)
		of(api.Spread, l()).s(s...).like(t, s, want)
		for _, axis := range append([]int{0, 1, 2, 3, 4, 5}, far...) {
			of(api.Iota).s(s...).a(axis).asExpected(t)
		}
		eachList(3, l(-1, 0, 1), func(a []int) { of(api.Iota).s(s...).a(a...).asExpected(t) })
	}
	of(api.Iota).a(0).refused(t, api.ErrArg)
	of(api.Iota).s(0).a(0).answered(t, 0)
	of(api.Iota).s(3).a(0, 0).refused(t, api.ErrArg)
}

// TestNumberByNumber: Neg to Select are of the shape of all that they take.
func TestNumberByNumber(t *testing.T) {
	all := slices.Concat(rightShapes(), in(l(33), l(1, 1, 1, 1, 1)))
	for op := api.Neg; op <= api.Select; op++ {
		for _, a := range all {
			of(op, a).asExpected(t)
			for _, b := range all {
				of(op, a, b).asExpected(t)
				for _, c := range in(a, b, nil, l(2, 3)) {
					of(op, a, b, c).asExpected(t)
					of(op, b, b, c).asExpected(t)
				}
			}
		}
	}
	of(api.Add, l(2), l(2, 1)).refused(t, api.ErrShape)
	of(api.Add, l(2, 3), l(3, 2)).refused(t, api.ErrShape)
	of(api.Add, l(0), l(0, 5)).refused(t, api.ErrShape)
	of(api.Select, l(2), l(2), l(3)).refused(t, api.ErrShape)
	of(api.Select, l(3), l(2), l(2)).refused(t, api.ErrShape)
	of(api.Select, l(2), l(3), l(2)).refused(t, api.ErrShape)
}

// TestTurn: all lists of few axes, with some that are none.
func TestTurn(t *testing.T) {
	for _, s := range rightShapes() {
		eachList(5, l(-1, 0, 1, 2, 3, 4), func(a []int) {
			if len(a) >= len(s)-1 && len(a) <= len(s)+1 {
				of(api.Turn, s).a(a...).asExpected(t)
			}
		})
		eachPut(s, func(a []int) { of(api.Turn, s).a(a...).refused(t, api.ErrArg) })
	}
	of(api.Turn, l()).answered(t)
	of(api.Turn, l(2)).refused(t, api.ErrArg)
	of(api.Turn, l()).a(0).refused(t, api.ErrArg)
	of(api.Turn, l(2, 3)).a(1, 1).refused(t, api.ErrArg)
}

// eachPut hands over the axes of s with a far number put in the place of each.
func eachPut(s []int, look func(a []int)) {
	for i := range s {
		for _, n := range far {
			a := make([]int, len(s))
			for k := range a {
				a[k] = k
			}
			a[i] = n
			look(a)
		}
	}
}

// TestSpread: all rising lists of few axes, and others, from shapes that go with them and ones that don't.
func TestSpread(t *testing.T) {
	for _, into := range rightShapes() {
		eachList(4, l(-1, 0, 1, 2, 3, 4), func(a []int) {
			var s []int
			for _, axis := range a {
				if axis < 0 || axis >= len(into) {
					s = append(s, 1)
				} else {
					s = append(s, into[axis])
				}
			}
			of(api.Spread, s).s(into...).a(a...).asExpected(t)
			of(api.Spread, append(s, 1)).s(into...).a(a...).asExpected(t)
			if len(s) == 0 {
				return
			}
			of(api.Spread, s[1:]).s(into...).a(a...).asExpected(t)
			s[len(s)-1] = s[len(s)-1]%5 + 1
			of(api.Spread, s).s(into...).a(a...).asExpected(t)
		})
		eachPut(into, func(a []int) { of(api.Spread, into).s(into...).a(a...).refused(t, api.ErrArg) })
	}
	of(api.Spread, l(2, 2)).s(2, 2).a(1, 0).refused(t, api.ErrArg)
	of(api.Spread, l(2, 2)).s(2, 2).a(0, 0).refused(t, api.ErrArg)
	of(api.Spread, l(1)).s(3).a(0).refused(t, api.ErrArg)
	of(api.Spread, l(3)).s(3).refused(t, api.ErrArg)
	of(api.Spread, l()).s(3).a(0).refused(t, api.ErrArg)
	of(api.Spread, l(0)).s(4, 0).a(1).answered(t, 4, 0)
	of(api.Spread, l(3)).s(33, 3).a(1).refused(t, api.ErrShape)
}

// TestSlice: all pieces of few shapes, and all lists of few numbers.
func TestSlice(t *testing.T) {
	for _, s := range in(nil, l(0), l(1), l(3), l(2, 1), l(0, 2), l(32, 3)) {
		eachList(5, l(-1, 0, 1, 2, 3, 4), func(a []int) { of(api.Slice, s).a(a...).asExpected(t) })
	}
	for _, s := range rightShapes() {
		whole := append(make([]int, len(s)), s...)
		of(api.Slice, s).a(whole...).answered(t, s...)
		of(api.Slice, s).a(append(slices.Clone(s), make([]int, len(s))...)...).answered(t, make([]int, len(s))...)
		of(api.Slice, s).a(append(whole, 0)...).refused(t, api.ErrArg)
		eachOther(whole, func(a []int) { of(api.Slice, s).a(a...).refused(t, api.ErrArg) })
		if len(s) > 0 {
			of(api.Slice, s).refused(t, api.ErrArg)
			of(api.Slice, s).a(whole[1:]...).refused(t, api.ErrArg)
		}
	}
	// From and size that go round together.
	of(api.Slice, l(5)).a(math.MaxInt, math.MaxInt).refused(t, api.ErrArg)
	of(api.Slice, l(5)).a(math.MaxInt, 1).refused(t, api.ErrArg)
	of(api.Slice, l(5)).a(1, math.MaxInt).refused(t, api.ErrArg)
	of(api.Slice, l(0)).a(half, half).refused(t, api.ErrArg)
	of(api.Slice, l(5)).a(3, 2).answered(t, 2)
	of(api.Slice, l(5)).a(3, 3).refused(t, api.ErrArg)
	of(api.Slice, l(5)).a(5, 0).answered(t, 0)
	of(api.Slice, l(5)).a(6, 0).refused(t, api.ErrArg)
	of(api.Slice, l(5)).a(6, -1).refused(t, api.ErrArg)
	of(api.Slice, l(5)).a(-1, 2).refused(t, api.ErrArg)
}

// eachOther hands over a with a far number in the place of each of its own.
func eachOther(a []int, look func(a []int)) {
	for i := range a {
		for _, n := range far {
			b := slices.Clone(a)
			b[i] = n
			look(b)
		}
	}
}

// TestPad: the bounds of A are asked ahead of the answer's shape.
func TestPad(t *testing.T) {
	for _, s := range in(nil, l(0), l(1), l(3), l(2, 1), l(0, 2), l(32, 3)) {
		eachList(5, l(-1, 0, 1, 2, 32, 33), func(a []int) { of(api.Pad, s).a(a...).num(1).asExpected(t) })
	}
	for _, s := range rightShapes() {
		none := make([]int, 2*len(s))
		of(api.Pad, s).a(none...).answered(t, s...)
		of(api.Pad, s).a(append(none, 0)...).refused(t, api.ErrArg)
		eachOther(none, func(a []int) { of(api.Pad, s).a(a...).refused(t, api.ErrArg) })
		eachOther(slices.Repeat(l(32), 2*len(s)), func(a []int) { of(api.Pad, s).a(a...).refused(t, api.ErrArg) })
		for i := range none {
			one := slices.Clone(none)
			one[i] = 1
			of(api.Pad, s).a(one...).asExpected(t)
		}
		if len(s) > 0 {
			of(api.Pad, s).refused(t, api.ErrArg)
			of(api.Pad, s).a(none[1:]...).refused(t, api.ErrArg)
		}
	}
	of(api.Pad, l(0)).a(32, 0).answered(t, 32)
	of(api.Pad, l(0)).a(0, 32).answered(t, 32)
	of(api.Pad, l(0)).a(32, 1).refused(t, api.ErrShape)
	of(api.Pad, l(2)).a(31, 0).refused(t, api.ErrShape)
	of(api.Pad, l(2)).a(0, 33).refused(t, api.ErrArg)
	of(api.Pad, l(32)).a(32, -1).refused(t, api.ErrArg)
	of(api.Pad, l(32, 32, 0)).a(0, 0, 4, 0, 0, 0).answered(t, 32, 32, 4)
	of(api.Pad, l(32, 32, 0)).a(0, 0, 4, 0, 0, 1).refused(t, api.ErrShape)
	of(api.Pad, l(32, 32, 4)).a(0, 0, 0, 0, 0, 1).refused(t, api.ErrShape)
}

// TestJoin: two and three of all small shapes, along each axis and some that are none.
func TestJoin(t *testing.T) {
	all := slices.Concat(smallShapes, in(l(32), l(31), l(32, 32), l(32, 4, 32), l(33), l(-1, 3)))
	for _, a := range all {
		for _, b := range all {
			for axis := -1; axis <= 4; axis++ {
				of(api.Join, a, b).a(axis).asExpected(t)
				of(api.Join, a, b, a).a(axis).asExpected(t)
				of(api.Join, a, a, b).a(axis).asExpected(t)
			}
		}
		for _, n := range far {
			of(api.Join, a, a).a(n).asExpected(t)
		}
		eachList(3, l(-1, 0, 1), func(n []int) { of(api.Join, a, a).a(n...).asExpected(t) })
	}
	of(api.Join, l(), l()).a(0).refused(t, api.ErrArg)
	of(api.Join, l(2), l(3, 3)).refused(t, api.ErrArg)
	of(api.Join, l(2), l(3, 3)).a(1).refused(t, api.ErrArg)
	of(api.Join, l(3, 3), l(2)).a(1).refused(t, api.ErrShape)
	of(api.Join, l(2), l(3, 3)).a(0).refused(t, api.ErrShape)
	of(api.Join, l(16), l(16)).a(0).answered(t, 32)
	of(api.Join, l(16), l(17)).a(0).refused(t, api.ErrShape)
	of(api.Join, l(16, 2), l(16, 3), l(16, 4)).a(1).answered(t, 16, 9)
	of(api.Join, l(16, 2), l(16, 3), l(15, 4)).a(1).refused(t, api.ErrShape)
	of(api.Join, l(32, 32, 2), l(32, 32, 2)).a(2).answered(t, 32, 32, 4)
	of(api.Join, l(32, 32, 2), l(32, 32, 3)).a(2).refused(t, api.ErrShape)
	of(api.Join, l(32, 32, 0, 16), l(32, 32, 0, 16)).a(3).answered(t, 32, 32, 0, 32)
	of(api.Join, slices.Repeat(in(l(1)), 32)...).a(0).answered(t, 32)
	of(api.Join, slices.Repeat(in(l(1)), 33)...).a(0).refused(t, api.ErrShape)
}

// hows: ways to fold, and numbers that are none.
var hows = append([]int{0, api.Sum, api.Prod, api.Least, api.Most, 5, api.Fold}, far...)

func TestFold(t *testing.T) {
	for _, s := range smallShapes {
		eachList(4, l(-1, 0, 1, 2, 3, 4), func(a []int) { of(api.Fold, s).a(a...).h(1 + len(a)%4).asExpected(t) })
	}
	for _, s := range rightShapes() {
		for _, how := range hows {
			eachList(2, l(0, 1, 2, 3), func(a []int) {
				if how < api.Sum || how > api.Most {
					of(api.Fold, s).a(a...).h(how).refused(t, api.ErrArg)
				} else {
					of(api.Fold, s).a(a...).h(how).asExpected(t)
				}
			})
		}
		for axis := range s {
			of(api.Fold, s).a(axis).h(api.Least).asExpected(t)
		}
		eachPut(s, func(a []int) { of(api.Fold, s).a(a...).h(api.Sum).refused(t, api.ErrArg) })
	}
	of(api.Fold, l()).h(api.Sum).answered(t)
	of(api.Fold, l(2, 3)).h(api.Sum).answered(t, 2, 3)
	of(api.Fold, l(2, 0)).a(1).h(api.Most).answered(t, 2)
	of(api.Fold, l(2, 3)).a(1, 0).h(api.Sum).refused(t, api.ErrArg)
	of(api.Fold, l(2, 3)).a(1, 1).h(api.Sum).refused(t, api.ErrArg)
	of(api.Fold, l(32, 32, 32, 0)).a(3).h(api.Sum).refused(t, api.ErrShape)
	of(api.Fold, l(32, 32, 32, 0)).a(2, 3).h(api.Sum).answered(t, 32, 32)
	of(api.Fold, l(32, 32, 32, 0)).a(3).refused(t, api.ErrArg)
	of(api.Fold, l(32, 32, 32, 0)).a(3, 4).h(api.Sum).refused(t, api.ErrArg)
}

func TestDot(t *testing.T) {
	all := slices.Concat(smallShapes, in(l(32), l(32, 32), l(32, 4, 32), l(32, 32, 2), l(2, 32), l(32, 32, 32, 0), l(0, 32), l(33), l(1, 1, 1, 1, 1)))
	for _, a := range all {
		for _, b := range all {
			for n := -1; n <= 5; n++ {
				of(api.Dot, a, b).a(n).asExpected(t)
			}
		}
		for _, n := range far {
			of(api.Dot, a, a).a(n).asExpected(t)
		}
		eachList(3, l(-1, 0, 1), func(n []int) { of(api.Dot, a, a).a(n...).asExpected(t) })
	}
	of(api.Dot, l(), l()).a(0).refused(t, api.ErrArg)
	of(api.Dot, l(2), l(2)).a(1).refused(t, api.ErrArg)
	of(api.Dot, l(2), l(3)).a(1).refused(t, api.ErrArg)
	of(api.Dot, l(2), l(3)).refused(t, api.ErrArg)
	of(api.Dot, l(2), l(2)).a(0, 0).refused(t, api.ErrArg)
	of(api.Dot, l(2), l(3)).a(0).refused(t, api.ErrShape)
	of(api.Dot, l(2, 0), l(0, 3)).a(0).answered(t, 2, 3)
	of(api.Dot, l(2, 3), l(2, 3)).a(1).answered(t, 2)
	of(api.Dot, l(32, 32, 2), l(2, 32)).a(0).refused(t, api.ErrShape)
	of(api.Dot, l(2, 2, 2), l(2, 2, 2)).a(0).answered(t, 2, 2, 2, 2)
	of(api.Dot, l(2, 2, 2, 2), l(2, 2, 2)).a(0).refused(t, api.ErrShape)
}

func TestWindow(t *testing.T) {
	for _, s := range rightShapes() {
		for axis := -1; axis <= 4; axis++ {
			for _, wide := range l(-1, 0, 1, 2, 3, 31, 32, 33) {
				for _, apart := range l(-1, 0, 1, 2, 3, 31, 32, 33) {
					of(api.Window, s).a(axis, wide, apart).h(1 + (axis+1)%4).asExpected(t)
				}
			}
		}
		for _, how := range hows {
			of(api.Window, s).a(0, 1, 1).h(how).asExpected(t)
		}
		eachOther(l(0, 1, 1), func(a []int) { of(api.Window, s).a(a...).h(api.Sum).refused(t, api.ErrArg) })
	}
	eachList(4, l(0, 1, 2), func(a []int) { of(api.Window, l(5, 6)).a(a...).h(api.Sum).asExpected(t) })
	of(api.Window, l()).a(0, 1, 1).h(api.Sum).refused(t, api.ErrArg)
	of(api.Window, l(5)).a(0, 2).h(api.Sum).refused(t, api.ErrArg)
	of(api.Window, l(5)).a(0, 2, 1, 1).h(api.Sum).refused(t, api.ErrArg)
	of(api.Window, l(5)).h(api.Sum).refused(t, api.ErrArg)
	of(api.Window, l(5)).a(0, 1, 1).refused(t, api.ErrArg)
	of(api.Window, l(2)).a(0, 9, 1).h(api.Sum).answered(t, 0)
	of(api.Window, l(0)).a(0, 32, 32).h(api.Sum).answered(t, 0)
	of(api.Window, l(32)).a(0, 32, 32).h(api.Sum).answered(t, 1)
	of(api.Window, l(32, 32, 32, 0)).a(2, 2, 1).h(api.Sum).answered(t, 32, 32, 31, 0)
}

// roomy makes a list with spare room that is full of n.
func roomy[T any](n T, l ...T) []T {
	r := slices.Grow(slices.Clone(l), 6)
	for i := range r[len(l):cap(r)] {
		r[len(l):cap(r)][i] = n
	}
	return r
}

// scribble writes over all of a list's room.
func scribble[T any](l []T, n T) {
	l = l[:cap(l)]
	for i := range l {
		l[i] = n
	}
}

// roomy is c by itself, its lists with spare room that is full of n.
func (c call) roomy(n int) call {
	c.n.In, c.n.Shape, c.n.A = roomy(n, c.n.In...), roomy(n, c.n.Shape...), roomy(n, c.n.A...)
	list := roomy([]int{n, n})
	for _, s := range c.in {
		list = append(list, roomy(n, s...))
	}
	c.in = list
	return c
}

// lists are all of c's, with all of their room.
func (c call) lists() [][]int {
	all := in(c.n.In, c.n.Shape, c.n.A)
	all = append(all, c.in[:cap(c.in)]...)
	for i, s := range all {
		all[i] = s[:cap(s)]
	}
	return all
}

// kept are copies of lists.
func kept(all [][]int) [][]int {
	l := make([][]int, len(all))
	for i, s := range all {
		l[i] = slices.Clone(s)
	}
	return l
}

func alike(a, b [][]int) bool {
	return slices.EqualFunc(a, b, slices.Equal[[]int])
}

// someCalls: answered ones and refused ones of each op.
func someCalls() []call {
	l := instances()
	for _, c := range instances() {
		l = append(l, c.a(0), c.a(5, 5, 5), c.s(33), c.s(1, 2), c.h(9), call{c.n, nil}, call{c.n, slices.Repeat(in([]int{33}), len(c.in))}, call{c.n, slices.Repeat(in(nil), len(c.in))})
	}
	return l
}

// TestHandedInIsKept: no call changes a list, its spare room included, be it refused or not (R2, R3).
func TestHandedInIsKept(t *testing.T) {
	for _, c := range someCalls() {
		r := c.roomy(1)
		want := kept(r.lists())
		got, why := graph.Shape(r.n, r.in)
		if !alike(r.lists(), want) {
			t.Errorf("Shape(%+v, %v): changed what is handed in", c.n, c.in)
		}
		scribble(got, -77)
		if !alike(r.lists(), want) {
			t.Errorf("Shape(%+v, %v): the answer shares memory with what is handed in", c.n, c.in)
		}
		first, _ := graph.Shape(r.n, r.in)
		second, _ := graph.Shape(r.n, r.in)
		saved := slices.Clone(second[:cap(second)])
		scribble(first, -77)
		if !slices.Equal(second[:cap(second)], saved) {
			t.Errorf("Shape(%+v, %v): two answers share memory", c.n, c.in)
		}
		for _, s := range r.lists() {
			scribble(s, -77)
		}
		if !slices.Equal(second[:cap(second)], saved) {
			t.Errorf("Shape(%+v, %v): what is handed in is kept", c.n, c.in)
		}
		c.like(t, second, why)
	}
}

// TestSpareRoom: what lies behind a list does not change what is answered (R5).
func TestSpareRoom(t *testing.T) {
	for _, c := range someCalls() {
		want, why := graph.Shape(c.n, c.in)
		for _, n := range []int{0, 1, 2, -1, math.MaxInt} {
			c.roomy(n).like(t, want, why)
		}
	}
}

// TestNilAndEmpty: they mean the same (R4).
func TestNilAndEmpty(t *testing.T) {
	for _, c := range someCalls() {
		want, why := graph.Shape(c.n, c.in)
		for _, none := range [][]int{nil, {}, roomy(1)} {
			x := call{c.n, slices.Clone(c.in)}
			for _, s := range []*[]int{&x.n.In, &x.n.Shape, &x.n.A} {
				if len(*s) == 0 {
					*s = none
				}
			}
			for i, s := range x.in {
				if len(s) == 0 {
					x.in[i] = none
				}
			}
			if len(x.in) == 0 {
				x.in = [][]int{}
			}
			x.like(t, want, why)
		}
	}
}

// TestLongLists: calls end, of long lists too (R1).
func TestLongLists(t *testing.T) {
	const long = 1 << 20
	some := slices.Repeat(in(l(0)), long)
	for _, n := range []int{0, 1, -1, math.MaxInt, math.MinInt} {
		list := slices.Repeat(l(n), long)
		for i, c := range instances() {
			want := api.ErrArg
			if strings.Contains(rules[i].asks, "s") {
				want = api.ErrShape
			}
			c.s(list...).refusedShort(t, want)
			c.a(list...).refusedShort(t, api.ErrArg)
			for k := range c.in {
				x := call{c.n, slices.Clone(c.in)}
				x.in[k] = list
				x.refusedShort(t, api.ErrShape)
			}
			if c.n.Op != api.Join {
				call{c.n, some}.refusedShort(t, api.ErrArg)
			}
		}
	}
	of(api.Join, some...).a(0).answered(t, 0)
	of(api.Join, append(some, l(1))...).a(0).answered(t, 1)
	of(api.Join, append(some, l(33))...).a(0).refusedShort(t, api.ErrShape)
	of(api.Join, append(some, l())...).a(0).refusedShort(t, api.ErrShape)
	of(api.Join, slices.Repeat(in(l(32)), long)...).a(0).refusedShort(t, api.ErrShape)
	of(api.Join, some...).a(1).refusedShort(t, api.ErrArg)
}

// refusedShort is refused of lists that are too long to be told.
func (c call) refusedShort(t *testing.T, want api.Errno) {
	t.Helper()
	if got, why := graph.Shape(c.n, c.in); why != want || len(got) > 0 {
		t.Errorf("Shape of op %d, with %d of A, %d of Shape, %d nodes: %v, %d, not %d", c.n.Op, len(c.n.A), len(c.n.Shape), len(c.in), got, int(why), int(want))
	}
}
