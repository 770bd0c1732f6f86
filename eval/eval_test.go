// Tests of P11.1's All and Outs, and of the rules R1 to R5 for them.
package eval_test

import (
	"fmt"
	"math"
	"slices"
	"strings"
	"testing"

	"parquetry/api"
	"parquetry/eval"
	"parquetry/graph"
)

// sample makes a graph of each op, over a mesh of two axes: three Params, nodes that are taken twice, told twice, and not told.
func sample() api.Graph {
	return api.Graph{
		Sizes: l(2, 3),
		Names: "xé",
		Nodes: []api.Node{
			{Op: api.Param, Shape: l(2, 3), Note: "x ."},
			{Op: api.Fill, Shape: l(3), N: 2, Note: "é"},
			{Op: api.Spread, In: l(1), Shape: l(2, 3), A: l(1)},
			{Op: api.Mul, In: l(0, 2), Note: "  "},
			{Op: api.Param, Shape: l(2, 3)},
			{Op: api.Sub, In: l(3, 4), Note: " é x"},
			{Op: api.Fold, In: l(5), A: l(0), How: api.Most, Note: "x"},
			{Op: api.Param},
			{Op: api.Pad, In: l(6), A: l(1, 2), N: great},
			{Op: api.Join, In: l(0, 3, 0), A: l(0)},
			{Op: api.Dot, In: l(6, 6), A: l(0)},
			{Op: api.Neg, In: l(7)},
			{Op: api.Less, In: l(10, 7)},
			{Op: api.Select, In: l(12, 11, 10)},
			{Op: api.Turn, In: l(5), A: l(1, 0)},
			{Op: api.Slice, In: l(9), A: l(1, 1, 2, 2)},
			{Op: api.Window, In: l(14), A: l(0, 2, 1), How: api.Sum},
			{Op: api.Iota, Shape: l(2, 2), A: l(1)},
			{Op: api.Max, In: l(16, 17)},
			{Op: api.Not, In: l(17)},
			{Op: api.Add, In: l(18, 18)},
			{Op: api.Min, In: l(20, 15)},
		},
		Outs: l(21, 9, 21, 0, 13, 7),
	}
}

// sampleParams are what sample is given.
func sampleParams() []api.Tensor {
	return in(of(l(2, 3), 1, 2, 3, 4, 5, 6), of(l(2, 3), 6, 5, 4, 3, 2, 1), of(nil, 400))
}

// sampleAll is what sample's nodes give of sampleParams, by hand.
func sampleAll() []api.Tensor {
	return in(
		of(l(2, 3), 1, 2, 3, 4, 5, 6),
		of(l(3), 2, 2, 2),
		of(l(2, 3), 2, 2, 2, 2, 2, 2),
		of(l(2, 3), 2, 4, 6, 8, 10, 12),
		of(l(2, 3), 6, 5, 4, 3, 2, 1),
		of(l(2, 3), -4, -1, 2, 5, 8, 11),
		of(l(3), 5, 8, 11),
		of(nil, 400),
		of(l(6), great, 5, 8, 11, great, great),
		of(l(6, 3), 1, 2, 3, 4, 5, 6, 2, 4, 6, 8, 10, 12, 1, 2, 3, 4, 5, 6),
		of(nil, 210),
		of(nil, -400),
		of(nil, 1),
		of(nil, -400),
		of(l(3, 2), -4, 5, -1, 8, 2, 11),
		of(l(2, 2), 5, 6, 4, 6),
		of(l(2, 2), -5, 13, 1, 19),
		of(l(2, 2), 0, 1, 0, 1),
		of(l(2, 2), 0, 13, 1, 19),
		of(l(2, 2), 1, 0, 1, 0),
		of(l(2, 2), 0, 26, 2, 38),
		of(l(2, 2), 0, 6, 2, 6),
	)
}

// picked are those of l.
func picked(all []api.Tensor, nodes []int) []api.Tensor {
	var l []api.Tensor
	for _, k := range nodes {
		l = append(l, all[k])
	}
	return l
}

func TestAllAndOuts(t *testing.T) {
	all := sampleAll()
	told(t, sample(), sampleParams(), all, picked(all, sample().Outs))
	// Each node told by itself, and all of them the other way round.
	g := sample()
	for i := range g.Nodes {
		g.Outs = l(i)
		told(t, g, sampleParams(), all, in(all[i]))
		g.Outs = l(i, 0, i, i)
		told(t, g, sampleParams(), all, in(all[i], all[0], all[i], all[i]))
	}
	g.Outs = nil
	for i := range g.Nodes {
		g.Outs = append(l(i), g.Outs...)
	}
	backward := slices.Clone(all)
	slices.Reverse(backward)
	told(t, g, sampleParams(), all, backward)
	g.Outs = nil
	told(t, g, sampleParams(), all, nil)
	if why := toldAsSaid(t, sample(), sampleParams()); why != api.OK {
		t.Errorf("sample: %d", int(why))
	}
}

// TestOfNothing: a graph of nothing, and of a mesh alone, tells nothing; it takes no param.
func TestOfNothing(t *testing.T) {
	for _, g := range []api.Graph{{}, {Sizes: l(), Nodes: []api.Node{}, Outs: l()}, {Sizes: l(2, 4), Names: "xy"}} {
		told(t, g, nil, nil, nil)
		told(t, g, in(), nil, nil)
		told(t, g, []api.Tensor{}, nil, nil)
		untold(t, g, in(of(nil, 5)), api.ErrShape)
		untold(t, g, in(api.Tensor{}), api.ErrShape)
		untold(t, g, in(of(l(0))), api.ErrShape)
	}
	untold(t, api.Graph{Outs: l(0)}, nil, api.ErrIndex)
}

// TestFillTold: a Fill is all the same, with no params.
func TestFillTold(t *testing.T) {
	for _, s := range slices.Concat(someShapes, greatShapes) {
		for _, n := range append([]int64{7}, ends...) {
			want := api.Tensor{Shape: s, Data: slices.Repeat([]int64{n}, product(s))}
			told(t, api.Graph{Nodes: []api.Node{{Op: api.Fill, Shape: s, N: n}}, Outs: l(0)}, nil, in(want), in(want))
		}
	}
}

// TestParamTold: a Param gives what is given for it, of any shape that may be.
func TestParamTold(t *testing.T) {
	for _, s := range slices.Concat(someShapes, greatShapes) {
		for _, m := range makers() {
			x, y := m(0, s...), m(1, s...)
			p := api.Node{Op: api.Param, Shape: s}
			told(t, api.Graph{Nodes: []api.Node{p}, Outs: l(0)}, in(x), in(x), in(x))
			told(t, api.Graph{Nodes: []api.Node{p, {Op: api.Fill, N: 5}, p}, Outs: l(2, 0)}, in(x, y), in(x, of(nil, 5), y), in(y, x))
			told(t, api.Graph{Nodes: []api.Node{p, p}, Outs: l(0, 1)}, in(x, x), in(x, x), in(x, x))
		}
	}
}

// TestMany: MaxNodes nodes and outs, Params and others by turns, each taken by the next one.
func TestMany(t *testing.T) {
	var g api.Graph
	var params, all []api.Tensor
	for i := range 48 {
		if i%3 == 0 {
			x := of(l(2), int64(i), int64(-i))
			g.Nodes = append(g.Nodes, api.Node{Op: api.Param, Shape: l(2)})
			params, all = append(params, x), append(all, x)
		} else {
			a, b := all[i-1].Data, all[i/2].Data
			g.Nodes = append(g.Nodes, api.Node{Op: api.Sub, In: l(i-1, i/2)})
			all = append(all, of(l(2), a[0]-b[0], a[1]-b[1]))
		}
		g.Outs = append(g.Outs, 47-i)
	}
	told(t, g, params, all, picked(all, g.Outs))
	slices.Reverse(params)
	if why := toldAsSaid(t, g, params); why != api.OK {
		t.Errorf("%d", int(why))
	}
	untold(t, g, params[1:], api.ErrShape)
	g.Nodes = append(g.Nodes, api.Node{Op: api.Fill})
	untold(t, g, params, api.ErrLong)
	untold(t, api.Graph{Nodes: params48(), Outs: make([]int, 49)}, nil, api.ErrLong)
}

// params48 are as many Params as there may be nodes.
func params48() []api.Node {
	return slices.Repeat([]api.Node{{Op: api.Param, Shape: []int{2}}}, 48)
}

// TestDoubled: numbers that go on doubling go round, and come to 0 in the end.
func TestDoubled(t *testing.T) {
	g := api.Graph{Nodes: []api.Node{{Op: api.Param, Shape: l(3)}}}
	for i := range 40 {
		g.Nodes = append(g.Nodes, api.Node{Op: api.Add, In: l(i, i)})
	}
	g.Nodes = append(g.Nodes, api.Node{Op: api.Mul, In: l(24, 40)}, api.Node{Op: api.Mul, In: l(24, 39)})
	g.Outs = l(41, 42, 40)
	outs, why := eval.Outs(g, in(of(l(3), 1, -1, great)))
	want := in(of(l(3), 0, 0, 0), of(l(3), least, least, least), of(l(3), 1<<40, -1<<40, -1<<40))
	if why != api.OK || !allAlike(outs, want) {
		t.Errorf("Outs: %v, %d, not %v", outs, int(why), want)
	}
}

// graph makes one of c: a Param for each tensor that c takes, then its node; and tells which node that is.
func (c call) graph() (api.Graph, int) {
	var g api.Graph
	n := c.n
	n.In = nil
	for i, x := range c.in {
		g.Nodes = append(g.Nodes, api.Node{Op: api.Param, Shape: x.Shape})
		n.In = append(n.In, i)
	}
	g.Nodes = append(g.Nodes, n)
	return g, len(c.in)
}

// TestEachOpInGraphs: each call that Node answers is answered the same in a graph, its tensors given, and its answer taken again; each one that it refuses is refused.
func TestEachOpInGraphs(t *testing.T) {
	for _, c := range someCalls() {
		g, k := c.graph()
		g.Nodes = append(g.Nodes, api.Node{Op: api.Neg, In: l(k)}, api.Node{Op: api.Less, In: l(k, k+1)})
		g.Outs = l(k, k+2, k)
		toldAsSaid(t, g, c.in)
		want, why := eval.Node(c.n, c.in)
		if why != api.OK {
			continue
		}
		if all, why := eval.All(g, c.in); why != api.OK || len(all) != k+3 || !alike(all[k], want) {
			t.Errorf("All of %+v, %s: %s, %d, not %v", c.n, short(c.in), short(all), int(why), want)
		}
	}
}

// dice are numbers one behind the other that look like none goes with the other; the same each time.
type dice struct{ state uint64 }

// below is the next one, 0 to n - 1.
func (d *dice) below(n int) int {
	d.state = d.state*6364136223846793005 + 1442695040888963407
	return int(d.state >> 33 % uint64(n))
}

// list is some of the numbers below n, as many as are told, in any order.
func (d *dice) list(many, n int) []int {
	var l []int
	for range many {
		l = append(l, d.below(n))
	}
	return l
}

// node is one of any op that may be behind nodes that give these shapes, or may not.
func (d *dice) node(shapes [][]int) api.Node {
	n := api.Node{Op: api.Param + d.below(api.Window)}
	takes := 1
	switch {
	case n.Op <= api.Iota:
		takes = 0
		n.Shape = d.list(d.below(5), 4)
	case n.Op == api.Select:
		takes = 3
	case n.Op >= api.Add && n.Op <= api.Less || n.Op == api.Dot:
		takes = 2
	case n.Op == api.Join:
		takes = 2 + d.below(3)
	}
	rank := 0
	for range takes {
		if len(shapes) == 0 {
			break
		}
		k := d.below(len(shapes))
		rank = len(shapes[k])
		n.In = append(n.In, k)
	}
	switch n.Op {
	case api.Fill:
		n.N = ends[d.below(len(ends))]
	case api.Iota, api.Join, api.Dot:
		n.A = l(d.below(3))
	case api.Turn:
		n.A = d.list(rank, max(rank, 1))
	case api.Spread:
		n.Shape, n.A = d.list(d.below(5), 4), d.list(rank, 4)
		slices.Sort(n.A)
	case api.Slice, api.Pad:
		n.A = d.list(2*rank, 3)
		n.N = int64(d.below(2) * (n.Op - api.Slice))
	case api.Fold:
		n.A, n.How = d.list(d.below(3), max(rank, 1)), 1+d.below(4)
		slices.Sort(n.A)
	case api.Window:
		n.A, n.How = l(d.below(max(rank, 1)), 1+d.below(3), 1+d.below(3)), 1+d.below(4)
	}
	return n
}

// graphOf is one of some nodes that may be, and what it may be given.
func (d *dice) graphOf(nodes int) (api.Graph, []api.Tensor) {
	g := api.Graph{Nodes: []api.Node{{Op: api.Param, Shape: d.list(d.below(4), 4)}}}
	for len(g.Nodes) < nodes {
		shapes, _ := graph.Shapes(g)
		next := g
		next.Nodes = append(slices.Clone(g.Nodes), d.node(shapes))
		if graph.Right(next) == api.OK {
			g = next
		}
	}
	g.Outs = d.list(d.below(6), nodes)
	shapes, _ := graph.Shapes(g)
	var params []api.Tensor
	for _, k := range graph.Params(g) {
		params = append(params, makers()[d.below(3)](d.below(9), shapes[k]...))
	}
	return g, params
}

// TestManyGraphs: ones of up to 24 nodes, of all ops, held against what the chapter says.
func TestManyGraphs(t *testing.T) {
	d := &dice{1}
	var seen [api.Window + 1]int
	for i := range 1500 {
		g, params := d.graphOf(1 + i%24)
		if why := toldAsSaid(t, g, params); why != api.OK {
			t.Fatalf("%+v, %s: %d", g, short(params), int(why))
		}
		for _, n := range g.Nodes {
			seen[n.Op]++
		}
		untold(t, g, params[1:], api.ErrShape)
		untold(t, g, append(params, of(nil, 1)), api.ErrShape)
	}
	for op, many := range seen[1:] {
		if many < 20 {
			t.Errorf("op %d: in %d nodes alone", op+1, many)
		}
	}
}

// TestNotes: a note changes nothing of what is told.
func TestNotes(t *testing.T) {
	g, all := sample(), sampleAll()
	for i := range g.Nodes {
		g.Nodes[i].Note = ""
	}
	told(t, g, sampleParams(), all, picked(all, g.Outs))
	g.Sizes, g.Names = nil, ""
	told(t, g, sampleParams(), all, picked(all, g.Outs))
}

// paramFaults are lists of params that sample does not take.
func paramFaults() [][]api.Tensor {
	p := sampleParams()
	all := [][]api.Tensor{
		nil, {}, p[:1], p[:2], p[1:], p[2:], {p[0], p[2]},
		append(sampleParams(), of(nil, 1)), append(sampleParams(), p[0]), append(sampleParams(), api.Tensor{}), append(sampleParams(), p...),
		{p[0], p[2], p[1]}, {p[2], p[0], p[1]}, {p[2], p[1], p[0]},
	}
	others := append(wrongTensors(), of(nil, 5), of(l(2, 3), 1, 2, 3, 4, 5, 6), of(l(3, 2), 1, 2, 3, 4, 5, 6), of(l(6), 1, 2, 3, 4, 5, 6), of(l(2, 3, 1), 1, 2, 3, 4, 5, 6), of(l(1, 2, 3), 1, 2, 3, 4, 5, 6), of(l(2, 2), 1, 2, 3, 4), of(l(2), 1, 2), of(l(1), 5), of(l(0)), of(l(2, 0)))
	for i := range p {
		for _, other := range others {
			x := sampleParams()
			if x[i] = other; !rightTensor(other) || !slices.Equal(other.Shape, p[i].Shape) {
				all = append(all, x)
			}
		}
	}
	return all
}

// TestWrongParams: one too few, one too many, one of another shape, one that is not right, each in any place: ErrShape.
func TestWrongParams(t *testing.T) {
	for _, params := range paramFaults() {
		untold(t, sample(), params, api.ErrShape)
	}
	// A Param that nobody takes or tells is asked all the same.
	g := api.Graph{Nodes: []api.Node{{Op: api.Param, Shape: l(2)}, {Op: api.Fill, Shape: l(1), N: 3}}, Outs: l(1)}
	told(t, g, in(of(l(2), 1, 2)), in(of(l(2), 1, 2), of(l(1), 3)), in(of(l(1), 3)))
	untold(t, g, nil, api.ErrShape)
	untold(t, g, in(of(l(1), 1)), api.ErrShape)
	untold(t, g, in(of(l(2), 1)), api.ErrShape)
	// Where there are no Params, none may be given.
	g.Nodes = g.Nodes[1:]
	g.Outs = l(0)
	untold(t, g, in(of(l(1), 3)), api.ErrShape)
	// No numbers are not nothing.
	g = api.Graph{Nodes: []api.Node{{Op: api.Param, Shape: l(2, 0)}}}
	told(t, g, in(of(l(2, 0))), in(of(l(2, 0))), nil)
	untold(t, g, in(of(l(0, 2))), api.ErrShape)
	untold(t, g, in(of(l(0))), api.ErrShape)
	untold(t, g, nil, api.ErrShape)
}

// graphFault is a way to make sample wrong, and the refusal.
type graphFault struct {
	why api.Errno
	do  func(g *api.Graph)
}

// graphFaults: each refusal of graph.Right, in each place.
func graphFaults() []graphFault {
	node := func(k int, why api.Errno, do func(n *api.Node)) graphFault {
		return graphFault{why, func(g *api.Graph) { do(&g.Nodes[k]) }}
	}
	return []graphFault{
		{api.ErrMesh, func(g *api.Graph) { g.Sizes = l(3, 3) }},
		{api.ErrMesh, func(g *api.Graph) { g.Names = "xx" }},
		{api.ErrMesh, func(g *api.Graph) { g.Sizes = nil }},
		{api.ErrLong, func(g *api.Graph) { g.Nodes = append(g.Nodes, params48()...) }},
		{api.ErrLong, func(g *api.Graph) { g.Outs = make([]int, 49) }},
		node(0, api.ErrIndex, func(n *api.Node) { n.In = l(0) }),
		node(3, api.ErrIndex, func(n *api.Node) { n.In = l(0, 3) }),
		node(5, api.ErrIndex, func(n *api.Node) { n.In = l(-1, 4) }),
		node(9, api.ErrIndex, func(n *api.Node) { n.In = l(0, 3, math.MaxInt) }),
		node(0, api.ErrShape, func(n *api.Node) { n.Shape = l(33, 3) }),
		node(4, api.ErrArg, func(n *api.Node) { n.N = 1 }),
		node(2, api.ErrArg, func(n *api.Node) { n.A = l(0) }),
		node(3, api.ErrShape, func(n *api.Node) { n.In = l(0, 1) }),
		node(6, api.ErrArg, func(n *api.Node) { n.How = 0 }),
		node(8, api.ErrShape, func(n *api.Node) { n.A = l(30, 2) }),
		node(8, api.ErrArg, func(n *api.Node) { n.A = l(33, 2) }),
		node(9, api.ErrArg, func(n *api.Node) { n.In = l(0) }),
		node(10, api.ErrShape, func(n *api.Node) { n.In = l(6, 8) }),
		node(13, api.ErrArg, func(n *api.Node) { n.Op = 99 }),
		node(16, api.ErrArg, func(n *api.Node) { n.A = l(0, 2) }),
		node(7, api.ErrNote, func(n *api.Node) { n.Note = "." }),
		node(0, api.ErrNote, func(n *api.Node) { n.Note = "z." }),
		node(21, api.ErrNote, func(n *api.Node) { n.Note = "xx" }),
		node(1, api.ErrNote, func(n *api.Node) { n.Note = strings.Repeat(" ", 17) }),
		{api.ErrIndex, func(g *api.Graph) { g.Outs = l(22) }},
		{api.ErrIndex, func(g *api.Graph) { g.Outs = append(slices.Clone(g.Outs), -1) }},
		{api.ErrIndex, func(g *api.Graph) { g.Outs = append(l(0, math.MinInt), g.Outs...) }},
	}
}

// TestWrongGraphs: graph.Right's refusal is handed on, ahead of what is wrong with the params.
func TestWrongGraphs(t *testing.T) {
	for i, f := range graphFaults() {
		g := sample()
		f.do(&g)
		if why := graph.Right(g); why != f.why {
			t.Fatalf("fault %d: %d, not %d", i, int(why), int(f.why))
		}
		untold(t, g, sampleParams(), f.why)
		for _, params := range paramFaults() {
			untold(t, g, params, f.why)
		}
		for _, second := range graphFaults() {
			g := sample()
			f.do(&g)
			second.do(&g)
			untold(t, g, sampleParams(), graph.Right(g))
			untold(t, g, nil, graph.Right(g))
			stop(t)
		}
	}
}

// roomyGraph makes g anew, its lists with spare room that is full of n.
func roomyGraph(g api.Graph, n int) api.Graph {
	r := g
	r.Sizes, r.Outs = roomy(n, g.Sizes...), roomy(n, g.Outs...)
	r.Nodes = roomy(api.Node{Op: api.Param, In: l(n), Shape: l(n), A: l(n), N: int64(n), How: n, Note: "n"}, g.Nodes...)
	for i, k := range g.Nodes {
		r.Nodes[i] = roomyNode(k, n)
	}
	return r
}

// wholeGraph is all of g, its spare room included, as a text.
func wholeGraph(g api.Graph) string {
	s := fmt.Sprintf("%v %q %v", g.Sizes[:cap(g.Sizes)], g.Names, g.Outs[:cap(g.Outs)])
	for _, n := range g.Nodes[:cap(g.Nodes)] {
		s += wholeNode(n)
	}
	return s
}

// overwriteGraph writes over all room of g's lists.
func overwriteGraph(g api.Graph) {
	for _, n := range g.Nodes[:cap(g.Nodes)] {
		for _, s := range [][]int{n.In, n.Shape, n.A} {
			scribble(s, -77)
		}
	}
	scribble(g.Sizes, -77)
	scribble(g.Outs, -77)
	scribble(g.Nodes, api.Node{Op: -77})
}

// graphCall is what All and Outs are handed.
type graphCall struct {
	g      api.Graph
	params []api.Tensor
}

// someGraphs: graphs with what they may be given, and with what they may not; ones that may not be; ones of calls that could hand out what they are handed in.
func someGraphs() []graphCall {
	all := []graphCall{{sample(), sampleParams()}, {api.Graph{}, nil}, {api.Graph{Sizes: l(2), Names: "x"}, in()}}
	for _, params := range paramFaults() {
		all = append(all, graphCall{sample(), params})
	}
	for _, f := range graphFaults() {
		g := sample()
		f.do(&g)
		all = append(all, graphCall{g, sampleParams()})
	}
	for _, c := range copies() {
		g, k := c.graph()
		g.Nodes = append(g.Nodes, api.Node{Op: api.Fill, Shape: l(1, 2), N: 4})
		g.Outs = l(k, 0, k, 0, k+1)
		all = append(all, graphCall{g, c.in})
	}
	return all
}

// TestGraphIsKept: All and Outs change nothing that they are handed, spare room included, be they refused or not; they keep none of it, and their answers are new memory (R2, R3).
func TestGraphIsKept(t *testing.T) {
	for _, c := range someGraphs() {
		for i, call := range []func(g api.Graph, params []api.Tensor) ([]api.Tensor, api.Errno){eval.All, eval.Outs} {
			g, params := roomyGraph(c.g, 1), roomyTensors(c.params, 1, of(l(1), 1))
			before := wholeGraph(g) + whole(params)
			first, why := call(g, params)
			second, _ := call(g, params)
			if wholeGraph(g)+whole(params) != before {
				t.Errorf("%s, %s: changed what is handed in", shortGraph(c.g), short(c.params))
			}
			saved := whole(second)
			overwrite(first)
			if wholeGraph(g)+whole(params) != before || whole(second) != saved {
				t.Errorf("%s, %s: the answer shares memory", shortGraph(c.g), short(c.params))
			}
			overwrite(params)
			overwriteGraph(g)
			if whole(second) != saved {
				t.Errorf("%s, %s: what is handed in is kept", shortGraph(c.g), short(c.params))
			}
			want, refusal := []func(g api.Graph, params []api.Tensor) ([]api.Tensor, api.Errno){saysAll, saysOuts}[i](c.g, c.params)
			if why != refusal || !allAlike(second, want) {
				t.Errorf("%s, %s: %s, %d, not %s, %d", shortGraph(c.g), short(c.params), short(second), int(why), short(want), int(refusal))
			}
			eachOwn(t, second)
		}
	}
}

// eachOwn tells whether writing over each list of the tensors, its spare room too, leaves all others as they are.
func eachOwn(t *testing.T, all []api.Tensor) {
	t.Helper()
	for i := range all {
		for _, shape := range []bool{true, false} {
			before := make([]string, len(all))
			for k, x := range all {
				before[k] = whole(in(api.Tensor{Shape: x.Shape}, api.Tensor{Data: x.Data}))
			}
			own := in(api.Tensor{Shape: all[i].Shape}, api.Tensor{Data: all[i].Data})
			if shape {
				scribble(all[i].Shape, -1000-i)
			} else {
				scribble(all[i].Data, -1000-int64(i))
			}
			before[i] = whole(own)
			for k, x := range all {
				if whole(in(api.Tensor{Shape: x.Shape}, api.Tensor{Data: x.Data})) != before[k] {
					t.Errorf("tensors %d and %d share memory", i, k)
				}
			}
		}
	}
}

// TestOneTensorGivenTwice: one that is given for two Params is told by each with memory of its own.
func TestOneTensorGivenTwice(t *testing.T) {
	p := api.Node{Op: api.Param, Shape: l(2, 2)}
	g := api.Graph{Nodes: []api.Node{p, p, {Op: api.Neg, In: l(0)}}, Outs: l(0, 1, 0, 2, 2)}
	x := of(l(2, 2), 1, 2, 3, 4)
	all, _ := eval.All(g, in(x, x))
	outs, _ := eval.Outs(g, in(x, x))
	eachOwn(t, append(in(x), all...))
	eachOwn(t, append(in(x), outs...))
	eachOwn(t, append(slices.Clone(all), outs...))
}

// TestSpareRoomOfGraphs: what lies behind a list does not change what is answered (R5).
func TestSpareRoomOfGraphs(t *testing.T) {
	for _, c := range someGraphs() {
		for _, n := range []int{0, 1, 2, -1, math.MaxInt} {
			for _, x := range []api.Tensor{of(nil, 5), of(l(2, 3), 1, 2, 3, 4, 5, 6)} {
				why := toldAsSaid(t, roomyGraph(c.g, n), roomyTensors(c.params, n, x))
				if _, want := saysAll(c.g, c.params); why != want {
					t.Errorf("%s, %s: %d with spare room, not %d", shortGraph(c.g), short(c.params), int(why), int(want))
				}
			}
		}
	}
	// Params that lie behind the list are not given.
	p := append(sampleParams(), sampleParams()...)
	untold(t, sample(), p[:2], api.ErrShape)
	told(t, sample(), p[:3], sampleAll(), picked(sampleAll(), sample().Outs))
}

// TestNilAndEmptyLists: they mean the same (R4).
func TestNilAndEmptyLists(t *testing.T) {
	none := func(list []int) []int {
		if len(list) == 0 {
			return []int{}
		}
		return list
	}
	for _, c := range someGraphs() {
		e, params := graph.Copy(c.g), slices.Clone(c.params)
		e.Sizes, e.Outs = none(e.Sizes), none(e.Outs)
		for i, n := range e.Nodes {
			e.Nodes[i].In, e.Nodes[i].Shape, e.Nodes[i].A = none(n.In), none(n.Shape), none(n.A)
		}
		for i, x := range params {
			params[i].Shape = none(x.Shape)
			if len(x.Data) == 0 {
				params[i].Data = []int64{}
			}
		}
		if len(params) == 0 {
			params = []api.Tensor{}
		}
		why := toldAsSaid(t, e, params)
		if _, want := saysAll(c.g, c.params); why != want {
			t.Errorf("%s, %s: %d of empty lists, not %d", shortGraph(c.g), short(c.params), int(why), int(want))
		}
	}
}

// TestLongGraphs: All and Outs end, of long lists too (R1).
func TestLongGraphs(t *testing.T) {
	const long = 1 << 18
	for _, k := range []int{0, 1, -1, math.MaxInt, math.MinInt} {
		list := slices.Repeat(l(k), long)
		untold(t, api.Graph{Sizes: list}, nil, api.ErrMesh)
		untold(t, api.Graph{Outs: list}, nil, api.ErrLong)
		untold(t, api.Graph{Nodes: []api.Node{{Op: api.Param, Shape: list}}}, in(of(list)), api.ErrShape)
		untold(t, api.Graph{Nodes: []api.Node{{Op: api.Param, Shape: l(1)}}}, in(of(list)), api.ErrShape)
		untold(t, api.Graph{Nodes: []api.Node{{Op: api.Param, Shape: l(1)}}}, in(api.Tensor{Shape: l(1), Data: make([]int64, long)}), api.ErrShape)
	}
	untold(t, api.Graph{Nodes: slices.Repeat(params48(), long/48)}, nil, api.ErrLong)
	untold(t, sample(), make([]api.Tensor, long), api.ErrShape)
	untold(t, api.Graph{}, make([]api.Tensor, long), api.ErrShape)
	x := of(l(0, 32))
	g := api.Graph{Nodes: []api.Node{{Op: api.Param, Shape: l(0, 32)}, {Op: api.Join, In: make([]int, long), A: l(0)}}, Outs: l(1)}
	if got, why := eval.Outs(g, in(x)); why != api.OK || !allAlike(got, in(x)) {
		t.Errorf("Outs of a long Join: %v, %d", got, int(why))
	}
}
