package graph

import (
	"slices"

	"parquetry/api"
	"parquetry/dot"
	"parquetry/fold"
	"parquetry/shape"
	"parquetry/window"
)

// asked is what an op asks: how many nodes it takes (if more, so many at least), and what else of its own node it reads.
type asked struct {
	in               int
	more             bool
	shape, a, n, how bool
}

// Shape tells the shape of what n gives when it takes tensors of the shapes in. It is reckoned by lengths alone: the layers that make the tensors tell the same.
func Shape(n api.Node, in [][]int) ([]int, api.Errno) {
	if !fits(n, len(in)) {
		return nil, api.ErrArg
	}
	for _, s := range in {
		if !shape.Right(s) {
			return nil, api.ErrShape
		}
	}
	switch n.Op {
	case api.Param, api.Fill:
		return own(n.Shape)
	case api.Iota:
		return counted(n.Shape, n.A)
	case api.Turn:
		return turned(in[0], n.A)
	case api.Spread:
		return spread(in[0], n.Shape, n.A)
	case api.Slice:
		return sliced(in[0], n.A)
	case api.Pad:
		return padded(in[0], n.A)
	case api.Join:
		return joined(in, n.A)
	case api.Fold:
		return folded(n.How, in[0], n.A)
	case api.Dot:
		return multiplied(in[0], in[1], n.A)
	case api.Window:
		return windowed(n.How, in[0], n.A)
	}
	// Neg to Select are left: they go number by number.
	return common(in)
}

// fits tells whether n's op takes so many nodes, and n has nothing that its op does not ask for.
func fits(n api.Node, in int) bool {
	want, ok := asks(n.Op)
	if !ok || in < want.in || in > want.in && !want.more {
		return false
	}
	return (want.shape || len(n.Shape) == 0) && (want.a || len(n.A) == 0) && (want.n || n.N == 0) && (want.how || n.How == 0)
}

// asks tells what an op asks; false of one that is none.
func asks(op int) (asked, bool) {
	switch op {
	case api.Param:
		return asked{shape: true}, true
	case api.Fill:
		return asked{shape: true, n: true}, true
	case api.Iota:
		return asked{shape: true, a: true}, true
	case api.Neg, api.Not:
		return asked{in: 1}, true
	case api.Add, api.Sub, api.Mul, api.Min, api.Max, api.Less:
		return asked{in: 2}, true
	case api.Select:
		return asked{in: 3}, true
	case api.Turn, api.Slice:
		return asked{in: 1, a: true}, true
	case api.Spread:
		return asked{in: 1, shape: true, a: true}, true
	case api.Pad:
		return asked{in: 1, a: true, n: true}, true
	case api.Join:
		return asked{in: 2, more: true, a: true}, true
	case api.Fold, api.Window:
		return asked{in: 1, a: true, how: true}, true
	case api.Dot:
		return asked{in: 2, a: true}, true
	}
	return asked{}, false
}

// own answers a copy of s, if it may be a shape.
func own(s []int) ([]int, api.Errno) {
	if !shape.Right(s) {
		return nil, api.ErrShape
	}
	return copied(s), api.OK
}

// common answers the shape that all of in are of.
func common(in [][]int) ([]int, api.Errno) {
	for _, s := range in[1:] {
		if !shape.Same(s, in[0]) {
			return nil, api.ErrShape
		}
	}
	return copied(in[0]), api.OK
}

// counted is Iota's shape.
func counted(s, a []int) ([]int, api.Errno) {
	if !shape.Right(s) {
		return nil, api.ErrShape
	}
	if len(a) != 1 || !isAxis(a[0], s) {
		return nil, api.ErrArg
	}
	return copied(s), api.OK
}

// turned is Turn's shape.
func turned(s, a []int) ([]int, api.Errno) {
	if len(a) != len(s) {
		return nil, api.ErrArg
	}
	t := make([]int, len(a))
	for i, axis := range a {
		// As many as there are axes, and none twice: each is there.
		if !isAxis(axis, s) || slices.Contains(a[:i], axis) {
			return nil, api.ErrArg
		}
		t[i] = s[axis]
	}
	return t, api.OK
}

// spread is Spread's shape.
func spread(s, into, a []int) ([]int, api.Errno) {
	if !shape.Right(into) {
		return nil, api.ErrShape
	}
	if len(a) != len(s) || !rising(a, into) {
		return nil, api.ErrArg
	}
	for i, axis := range a {
		if into[axis] != s[i] {
			return nil, api.ErrArg
		}
	}
	return copied(into), api.OK
}

// sliced is Slice's shape.
func sliced(s, a []int) ([]int, api.Errno) {
	if len(a) != 2*len(s) {
		return nil, api.ErrArg
	}
	from, size := a[:len(s)], a[len(s):]
	for axis, length := range s {
		// The sum of from and size may go round; what is left behind from may not.
		if from[axis] < 0 || size[axis] < 0 || size[axis] > length-from[axis] {
			return nil, api.ErrArg
		}
	}
	return copied(size), api.OK
}

// padded is Pad's shape.
func padded(s, a []int) ([]int, api.Errno) {
	if len(a) != 2*len(s) {
		return nil, api.ErrArg
	}
	for _, length := range a {
		if length < 0 || length > api.MaxDim {
			return nil, api.ErrArg
		}
	}
	t := make([]int, len(s))
	for axis, length := range s {
		t[axis] = a[axis] + length + a[len(s)+axis]
	}
	return own(t)
}

// joined is Join's shape.
func joined(in [][]int, a []int) ([]int, api.Errno) {
	if len(a) != 1 || !isAxis(a[0], in[0]) {
		return nil, api.ErrArg
	}
	t, axis := copied(in[0]), a[0]
	for _, s := range in[1:] {
		if len(s) != len(t) || !shape.Same(s[:axis], t[:axis]) || !shape.Same(s[axis+1:], t[axis+1:]) {
			return nil, api.ErrShape
		}
		t[axis] += s[axis]
	}
	return own(t)
}

// folded is Fold's shape.
func folded(how int, s, a []int) ([]int, api.Errno) {
	if !fold.Right(how) || !rising(a, s) {
		return nil, api.ErrArg
	}
	left := make([]int, 0, len(s))
	for axis, length := range s {
		if !slices.Contains(a, axis) {
			left = append(left, length)
		}
	}
	// What is left may be too great: a length of 0 that is folded away kept the numbers few.
	return own(left)
}

// multiplied is Dot's shape.
func multiplied(s, t, a []int) ([]int, api.Errno) {
	if len(a) != 1 {
		return nil, api.ErrArg
	}
	return dot.Shape(s, t, a[0])
}

// windowed is Window's shape.
func windowed(how int, s, a []int) ([]int, api.Errno) {
	if len(a) != 3 || !fold.Right(how) {
		return nil, api.ErrArg
	}
	axis, wide, apart := a[0], a[1], a[2]
	if !isAxis(axis, s) || wide < 1 || wide > api.MaxDim || apart < 1 || apart > api.MaxDim {
		return nil, api.ErrArg
	}
	t := copied(s)
	t[axis] = window.Out(s[axis], wide, apart)
	return t, api.OK
}

// isAxis tells whether axis is one of s.
func isAxis(axis int, s []int) bool {
	return axis >= 0 && axis < len(s)
}

// rising tells whether a has axes of s alone, each greater than the one ahead of it.
func rising(a, s []int) bool {
	last := -1
	for _, axis := range a {
		if axis <= last || axis >= len(s) {
			return false
		}
		last = axis
	}
	return true
}
