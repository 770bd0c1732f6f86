// What the tests of eval hold its answers against: each op by its own words, asking nothing of the program but graph's refusals and shapes.
package eval_test

import (
	"fmt"
	"math"
	"slices"
	"testing"

	"parquetry/api"
	"parquetry/eval"
	"parquetry/graph"
)

const (
	great = math.MaxInt64
	least = math.MinInt64
)

func l(n ...int) []int { return n }

func of(s []int, l ...int64) api.Tensor { return api.Tensor{Shape: s, Data: l} }

func in(t ...api.Tensor) []api.Tensor { return t }

// product multiplies.
func product(s []int) int {
	n := 1
	for _, length := range s {
		n *= length
	}
	return n
}

// counted makes a tensor of s of which no number is like another, from n on.
func counted(n int64, s ...int) api.Tensor {
	t := api.Tensor{Shape: slices.Clone(s)}
	for i := range product(s) {
		t.Data = append(t.Data, n+int64(i))
	}
	return t
}

// ends are numbers about both ends of int64, and about 0, and such as go round to 0 or to a small one when they are multiplied.
var ends = []int64{great, least, -1, 0, 1, great - 1, least + 1, 2, 1 << 32, -1 << 32, 1 << 62, -1 << 62, 3, 1<<32 + 1, least / 3, great / 2}

// atEnds makes a tensor of s of ends, from the from-th on.
func atEnds(from int, s ...int) api.Tensor {
	t := api.Tensor{Shape: slices.Clone(s)}
	for i := range product(s) {
		t.Data = append(t.Data, ends[(from+i)%len(ends)])
	}
	return t
}

// ofAll makes a tensor for each of the shapes, by that maker.
func ofAll(shapes [][]int, make func(k int, s ...int) api.Tensor) []api.Tensor {
	var l []api.Tensor
	for k, s := range shapes {
		l = append(l, make(k, s...))
	}
	return l
}

// makers are ways to fill the tensors that a node takes, each one unlike the one ahead of it: unlike numbers, great ones, and a few small ones, 0 among them.
func makers() []func(k int, s ...int) api.Tensor {
	return []func(k int, s ...int) api.Tensor{
		func(k int, s ...int) api.Tensor { return counted(int64(1001-5000*k), s...) },
		func(k int, s ...int) api.Tensor { return atEnds(5*k, s...) },
		func(k int, s ...int) api.Tensor {
			t := counted(0, s...)
			for i := range t.Data {
				t.Data[i] = int64((i*7+3*k)%5) - 2
			}
			return t
		},
	}
}

func alike(a, b api.Tensor) bool {
	return slices.Equal(a.Shape, b.Shape) && slices.Equal(a.Data, b.Data)
}

func allAlike(a, b []api.Tensor) bool { return slices.EqualFunc(a, b, alike) }

func nothing(t api.Tensor) bool { return len(t.Shape) == 0 && len(t.Data) == 0 }

// eachPlace hands over each place of s, the last way first, in a new list each time.
func eachPlace(s []int, look func(at []int)) {
	for i := range product(s) {
		at := make([]int, len(s))
		for axis := len(s) - 1; axis >= 0; axis-- {
			at[axis] = i % s[axis]
			i /= s[axis]
		}
		look(at)
	}
}

// number is the one of t at a place that it has.
func number(t api.Tensor, at []int) int64 {
	i := 0
	for axis, place := range at {
		i = i*t.Shape[axis] + place
	}
	return t.Data[i]
}

// put is l with n in place i.
func put(l []int, i, n int) []int {
	l = slices.Clone(l)
	l[i] = n
	return l
}

// truth is 1 of true, else 0.
func truth(yes bool) int64 {
	if yes {
		return 1
	}
	return 0
}

// foldedOf folds numbers, each way by its own words.
func foldedOf(how int, l []int64) int64 {
	switch how {
	case api.Least:
		return slices.Min(append(l, great))
	case api.Most:
		return slices.Max(append(l, least))
	}
	sum, prod := uint64(0), uint64(1)
	for _, n := range l {
		sum += uint64(n)
		prod *= uint64(n)
	}
	if how == api.Prod {
		return int64(prod)
	}
	return int64(sum)
}

// single is the number at a place of what Fill to Select give.
func single(n api.Node, in []api.Tensor, at []int) int64 {
	x := make([]int64, 3)
	for i, t := range in {
		x[i] = number(t, at)
	}
	switch n.Op {
	case api.Fill:
		return n.N
	case api.Iota:
		return int64(at[n.A[0]])
	case api.Neg:
		return int64(-uint64(x[0]))
	case api.Not:
		return truth(x[0] == 0)
	case api.Add:
		return int64(uint64(x[0]) + uint64(x[1]))
	case api.Sub:
		return int64(uint64(x[0]) - uint64(x[1]))
	case api.Mul:
		return int64(uint64(x[0]) * uint64(x[1]))
	case api.Min:
		return slices.Min(x[:2])
	case api.Max:
		return slices.Max(x[:2])
	case api.Less:
		return truth(x[0] < x[1])
	}
	if x[0] == 0 {
		return x[2]
	}
	return x[1]
}

// moved is the number at a place of what Turn to Join give.
func moved(n api.Node, in []api.Tensor, at []int) int64 {
	t := in[0]
	source := make([]int, len(t.Shape))
	switch n.Op {
	case api.Turn:
		for i, axis := range n.A {
			source[axis] = at[i]
		}
	case api.Spread:
		for i, axis := range n.A {
			source[i] = at[axis]
		}
	case api.Slice:
		for i := range source {
			source[i] = n.A[i] + at[i]
		}
	case api.Pad:
		for i, length := range t.Shape {
			if source[i] = at[i] - n.A[i]; source[i] < 0 || source[i] >= length {
				return n.N
			}
		}
	case api.Join:
		axis := n.A[0]
		source = slices.Clone(at)
		for _, t = range in {
			if source[axis] < t.Shape[axis] {
				break
			}
			source[axis] -= t.Shape[axis]
		}
	}
	return number(t, source)
}

// gathered is the number at a place of what Fold, Dot and Window give.
func gathered(n api.Node, in []api.Tensor, at []int) int64 {
	var l []int64
	t := in[0]
	switch n.Op {
	case api.Fold:
		eachPlace(t.Shape, func(place []int) {
			var left []int
			for axis, k := range place {
				if !slices.Contains(n.A, axis) {
					left = append(left, k)
				}
			}
			if slices.Equal(left, at) {
				l = append(l, number(t, place))
			}
		})
	case api.Dot:
		shared, rows := n.A[0], len(t.Shape)-1
		for k := range t.Shape[rows] {
			a := append(slices.Clone(at[:rows]), k)
			b := append(append(slices.Clone(at[:shared]), k), at[rows:]...)
			l = append(l, int64(uint64(number(t, a))*uint64(number(in[1], b))))
		}
		return foldedOf(api.Sum, l)
	case api.Window:
		axis := n.A[0]
		for k := range n.A[1] {
			l = append(l, number(t, put(at, axis, at[axis]*n.A[2]+k)))
		}
	}
	return foldedOf(n.How, l)
}

// says is what the chapter says of Node.
func says(n api.Node, in []api.Tensor) (api.Tensor, api.Errno) {
	var shapes [][]int
	for _, t := range in {
		if !rightTensor(t) {
			return api.Tensor{}, api.ErrShape
		}
		shapes = append(shapes, t.Shape)
	}
	s, why := graph.Shape(n, shapes)
	if why != api.OK {
		return api.Tensor{}, why
	}
	if n.Op == api.Param {
		return api.Tensor{}, api.ErrNone
	}
	tell := single
	if n.Op >= api.Turn {
		tell = moved
	}
	if n.Op >= api.Fold {
		tell = gathered
	}
	t := api.Tensor{Shape: s}
	eachPlace(s, func(at []int) { t.Data = append(t.Data, tell(n, in, at)) })
	return t, api.OK
}

// saysAll is what the chapter says of All.
func saysAll(g api.Graph, params []api.Tensor) ([]api.Tensor, api.Errno) {
	shapes, why := graph.Shapes(g)
	if why != api.OK {
		return nil, why
	}
	nodes := graph.Params(g)
	if len(params) != len(nodes) {
		return nil, api.ErrShape
	}
	all := make([]api.Tensor, len(g.Nodes))
	for i, k := range nodes {
		if !rightTensor(params[i]) || !slices.Equal(params[i].Shape, shapes[k]) {
			return nil, api.ErrShape
		}
		all[k] = params[i]
	}
	for i, n := range g.Nodes {
		if n.Op == api.Param {
			continue
		}
		var in []api.Tensor
		for _, k := range n.In {
			in = append(in, all[k])
		}
		if all[i], why = says(n, in); why != api.OK {
			return nil, why
		}
	}
	return all, api.OK
}

// saysOuts is what the chapter says of Outs.
func saysOuts(g api.Graph, params []api.Tensor) ([]api.Tensor, api.Errno) {
	all, why := saysAll(g, params)
	var outs []api.Tensor
	if why == api.OK {
		for _, out := range g.Outs {
			outs = append(outs, all[out])
		}
	}
	return outs, why
}

// rightTensor is what layers 1 and 2 say of tensors.
func rightTensor(t api.Tensor) bool {
	for _, length := range t.Shape {
		if length < 0 || length > 32 {
			return false
		}
	}
	return len(t.Shape) <= 4 && product(t.Shape) <= 4096 && len(t.Data) == product(t.Shape)
}

// answered tells whether Node answers that tensor.
func answered(t *testing.T, n api.Node, in []api.Tensor, want api.Tensor) {
	t.Helper()
	if got, why := eval.Node(n, in); why != api.OK || !alike(got, want) {
		t.Errorf("Node(%+v, %s): %v, %d, not %v", n, short(in), got, int(why), want)
	}
}

// refused tells whether Node answers that refusal, and nothing beside it.
func refused(t *testing.T, n api.Node, in []api.Tensor, want api.Errno) {
	t.Helper()
	if got, why := eval.Node(n, in); why != want || !nothing(got) {
		t.Errorf("Node(%+v, %s): %v, %d, not %d", n, short(in), got, int(why), int(want))
	}
}

// asSaid tells whether Node answers as the chapter says, and what that refusal is.
func asSaid(t *testing.T, n api.Node, in []api.Tensor) api.Errno {
	t.Helper()
	want, why := says(n, in)
	if why != api.OK {
		refused(t, n, in, why)
	} else {
		answered(t, n, in, want)
	}
	stop(t)
	return why
}

// told tells whether All and Outs answer these tensors.
func told(t *testing.T, g api.Graph, params, all, outs []api.Tensor) {
	t.Helper()
	if got, why := eval.All(g, params); why != api.OK || !allAlike(got, all) {
		t.Errorf("All(%+v, %s): %s, %d, not %s", g, short(params), short(got), int(why), short(all))
	}
	if got, why := eval.Outs(g, params); why != api.OK || !allAlike(got, outs) {
		t.Errorf("Outs(%+v, %s): %s, %d, not %s", g, short(params), short(got), int(why), short(outs))
	}
}

// untold tells whether All and Outs answer that refusal, and nothing beside it.
func untold(t *testing.T, g api.Graph, params []api.Tensor, want api.Errno) {
	t.Helper()
	if got, why := eval.All(g, params); why != want || len(got) > 0 {
		t.Errorf("All(%s, %s): %s, %d, not %d", shortGraph(g), short(params), short(got), int(why), int(want))
	}
	if got, why := eval.Outs(g, params); why != want || len(got) > 0 {
		t.Errorf("Outs(%s, %s): %s, %d, not %d", shortGraph(g), short(params), short(got), int(why), int(want))
	}
}

// toldAsSaid tells whether All and Outs answer as the chapter says, and what that refusal is.
func toldAsSaid(t *testing.T, g api.Graph, params []api.Tensor) api.Errno {
	t.Helper()
	all, why := saysAll(g, params)
	outs, _ := saysOuts(g, params)
	if why != api.OK {
		untold(t, g, params, why)
	} else {
		told(t, g, params, all, outs)
	}
	stop(t)
	return why
}

// stop ends a test that has failed: of so many cases the first one tells enough.
func stop(t *testing.T) {
	t.Helper()
	if t.Failed() {
		t.FailNow()
	}
}

// short tells of tensors, at length only if they have few numbers.
func short(l []api.Tensor) string {
	if s := fmt.Sprint(l); len(s) < 2000 {
		return s
	}
	return fmt.Sprintf("%d tensors", len(l))
}

// shortGraph tells of a graph, at length only if it has little.
func shortGraph(g api.Graph) string {
	if s := fmt.Sprintf("%+v", g); len(s) < 2000 {
		return s
	}
	return fmt.Sprintf("a graph of %d sizes, %d nodes, %d outs", len(g.Sizes), len(g.Nodes), len(g.Outs))
}
