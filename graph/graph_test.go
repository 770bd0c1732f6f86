// Tests of P10.2, and of the rules R1 to R5 for the calls that judge graphs.
package graph_test

import (
	"fmt"
	"math"
	"slices"
	"strings"
	"testing"

	"parquetry/api"
	"parquetry/graph"
	"parquetry/names"
)

// sample makes a graph of several nodes, noted, blank and not, over a mesh of two axes; some are taken twice, some told twice.
func sample() api.Graph {
	return api.Graph{
		Sizes: l(2, 3),
		Names: "xé",
		Nodes: []api.Node{
			{Op: api.Param, Shape: l(4, 6), Note: "x ."},
			{Op: api.Fill, Shape: l(6), N: least, Note: "é"},
			{Op: api.Spread, In: l(1), Shape: l(4, 6), A: l(1)},
			{Op: api.Add, In: l(0, 2), Note: "  "},
			{Op: api.Mul, In: l(3, 3), Note: " é x"},
			{Op: api.Fold, In: l(4), A: l(0), How: api.Most, Note: "x"},
			{Op: api.Param, N: 0},
			{Op: api.Pad, In: l(5), A: l(1, 2), N: great},
			{Op: api.Join, In: l(0, 4, 3), A: l(0)},
			{Op: api.Dot, In: l(5, 5), A: l(0)},
		},
		Outs: l(8, 0, 9, 8),
	}
}

// sampleShapes are those of sample.
var sampleShapes = "[[4 6] [6] [4 6] [4 6] [4 6] [6] [] [9] [12 6] []]"

// rightGraph tells whether Right and Shapes answer that g may be, and what its nodes give.
func rightGraph(t *testing.T, g api.Graph, want string) {
	t.Helper()
	if why := graph.Right(g); why != api.OK {
		t.Errorf("Right(%s): %d, not OK", short(g), int(why))
	}
	if got, why := graph.Shapes(g); why != api.OK || len(got) != len(g.Nodes) || fmt.Sprint(got) != want {
		t.Errorf("Shapes(%s): %v, %d, not %s", short(g), got, int(why), want)
	}
}

// wrongGraph tells whether Right and Shapes answer that refusal, and nothing beside it.
func wrongGraph(t *testing.T, g api.Graph, want api.Errno) {
	t.Helper()
	if why := graph.Right(g); why != want {
		t.Errorf("Right(%s): %d, not %d", short(g), int(why), int(want))
	}
	if got, why := graph.Shapes(g); why != want || len(got) > 0 {
		t.Errorf("Shapes(%s): %v, %d, not %d", short(g), got, int(why), int(want))
	}
}

// judgedGraph tells whether Right and Shapes answer as want says: all shapes, or the refusal.
func judgedGraph(t *testing.T, g api.Graph, want [][]int, why api.Errno) {
	t.Helper()
	if why != api.OK {
		wrongGraph(t, g, why)
		return
	}
	rightGraph(t, g, fmt.Sprint(want))
}

// short tells of a graph, at length only if it has few nodes.
func short(g api.Graph) string {
	s := fmt.Sprintf("%+v", g)
	if len(s) > 2000 {
		return fmt.Sprintf("%d sizes, %d bytes of names, %d nodes, %d outs", len(g.Sizes), len(g.Names), len(g.Nodes), len(g.Outs))
	}
	return s
}

// rightMesh is the chapter's first sentence of P10.2, names.Right as layer 9 tells it.
func rightMesh(sizes []int, s string) bool {
	devices := 1
	for _, size := range sizes {
		if size < 1 || size > 8 {
			return false
		}
		if len(sizes) <= 3 {
			devices *= size
		}
	}
	return len(sizes) <= 3 && devices <= 8 && names.Right(s, len(sizes))
}

// judged is what the chapter says of g.
func judged(g api.Graph) ([][]int, api.Errno) {
	if !rightMesh(g.Sizes, g.Names) {
		return nil, api.ErrMesh
	}
	if len(g.Nodes) > 48 || len(g.Outs) > 48 {
		return nil, api.ErrLong
	}
	var all [][]int
	for i, n := range g.Nodes {
		c := call{n, nil}
		for _, k := range n.In {
			if !slices.Contains(firstNumbers(i), k) {
				return nil, api.ErrIndex
			}
			c.in = append(c.in, all[k])
		}
		s, why := c.expected()
		if why != api.OK {
			return nil, why
		}
		if _, _, why := names.Note(g.Names, n.Note, len(s)); why != api.OK {
			return nil, why
		}
		all = append(all, s)
	}
	for _, out := range g.Outs {
		if !slices.Contains(firstNumbers(len(g.Nodes)), out) {
			return nil, api.ErrIndex
		}
	}
	return all, api.OK
}

// firstNumbers are 0 to n - 1.
func firstNumbers(n int) []int {
	var l []int
	for i := range n {
		l = append(l, i)
	}
	return l
}

// runesNamed are names of n axes.
func runesNamed(n int) string {
	return string([]rune("éx世wvuts")[:min(n, 8)])
}

// params are n nodes of that op.
func params(n int) []api.Node {
	return slices.Repeat([]api.Node{{Op: api.Param, Shape: []int{2}}}, n)
}

func TestRight(t *testing.T) {
	rightGraph(t, sample(), sampleShapes)
	rightGraph(t, api.Graph{Nodes: params(1), Outs: l(0)}, "[[2]]")
	rightGraph(t, api.Graph{Sizes: l(8), Names: "d", Nodes: []api.Node{{Op: api.Iota, Shape: l(3, 2), A: l(1), Note: ".d"}, {Op: api.Turn, In: l(0), A: l(1, 0), Note: ".d"}}}, "[[3 2] [2 3]]")
	rightGraph(t, api.Graph{Sizes: l(2, 2, 2), Names: "xyz", Nodes: []api.Node{{Op: api.Param, Shape: l(2, 3, 4, 5), Note: "z.yx"}, {Op: api.Neg, In: l(0), Note: "...."}, {Op: api.Less, In: l(0, 1)}, {Op: api.Select, In: l(2, 1, 0)}}, Outs: l(3)}, "[[2 3 4 5] [2 3 4 5] [2 3 4 5] [2 3 4 5]]")
}

// TestOfNothing: a graph of nothing may be, and so may one that has a mesh alone.
func TestOfNothing(t *testing.T) {
	for _, g := range []api.Graph{{}, {Sizes: l(), Nodes: []api.Node{}, Outs: l()}, {Sizes: l(2), Names: "x"}, {Sizes: l(2, 4, 1), Names: "xyz"}} {
		rightGraph(t, g, "[]")
		if p := graph.Params(g); len(p) > 0 {
			t.Errorf("Params(%+v): %v", g, p)
		}
		if !graph.Same(g, g) || !graph.Same(graph.Copy(g), g) {
			t.Errorf("Same, Copy of %+v", g)
		}
	}
	wrongGraph(t, api.Graph{Outs: l(0)}, api.ErrIndex)
}

// TestMeshes: all of 0 to 4 axes, of all small sizes.
func TestMeshes(t *testing.T) {
	eachList(4, l(-1, 0, 1, 2, 3, 4, 5, 7, 8, 9), func(sizes []int) {
		g := api.Graph{Sizes: sizes, Names: runesNamed(len(sizes)), Nodes: params(1), Outs: l(0)}
		if !rightMesh(sizes, g.Names) {
			wrongGraph(t, g, api.ErrMesh)
			return
		}
		rightGraph(t, g, "[[2]]")
	})
	for _, sizes := range [][]int{{8}, {1, 8}, {2, 4}, {2, 2, 2}, {8, 1, 1}} {
		rightGraph(t, api.Graph{Sizes: sizes, Names: runesNamed(len(sizes))}, "[]")
	}
	for _, sizes := range [][]int{{9}, {1, 9}, {3, 3}, {2, 5}, {2, 2, 3}, {8, 2}, {8, 8, 8}, {0}, {0, 9}, {-2, -2}, {2, 2, -2}, {1, 1, 1, 1}} {
		wrongGraph(t, api.Graph{Sizes: sizes, Names: runesNamed(len(sizes))}, api.ErrMesh)
	}
	for _, n := range far {
		for _, sizes := range [][]int{{n}, {n, 1}, {1, n}, {n, n}, {n, 2, 1}, {n, n, 1}, {n, n, n}, {1, 2, n}} {
			wrongGraph(t, api.Graph{Sizes: sizes, Names: runesNamed(len(sizes))}, api.ErrMesh)
		}
	}
}

// TestNames: as many as there are sizes, each such as may be.
func TestNames(t *testing.T) {
	for _, s := range []string{"", "x", "é", "xy", "世x", "xyz", "éx世", "xyzw", " ", "x ", "x y", ".", "x.", "-", "(x", "x)", "xx", "xyx", "\xff", "\ufffd", "x\xff", "\n", "xy\x00"} {
		for k := range 5 {
			g := api.Graph{Sizes: slices.Repeat(l(2), min(k, 3)), Names: s}
			g.Sizes = append(g.Sizes, slices.Repeat(l(1), k-len(g.Sizes))...)
			judgedGraph(t, g, nil, map[bool]api.Errno{false: api.ErrMesh}[rightMesh(g.Sizes, s)])
		}
	}
	wrongGraph(t, api.Graph{Names: "x"}, api.ErrMesh)
	wrongGraph(t, api.Graph{Sizes: l(2)}, api.ErrMesh)
	wrongGraph(t, api.Graph{Sizes: l(2, 3), Names: "xx"}, api.ErrMesh)
	rightGraph(t, api.Graph{Sizes: l(2), Names: "é"}, "[]")
}

// TestHowMany: MaxNodes nodes and outs at most.
func TestHowMany(t *testing.T) {
	for nodes := range 52 {
		for outs := range 52 {
			g := api.Graph{Nodes: params(nodes), Outs: make([]int, outs)}
			switch {
			case nodes > 48 || outs > 48:
				wrongGraph(t, g, api.ErrLong)
			case nodes == 0 && outs > 0:
				wrongGraph(t, g, api.ErrIndex)
			default:
				rightGraph(t, g, fmt.Sprint(slices.Repeat(in(l(2)), nodes)))
			}
		}
	}
	g := api.Graph{Nodes: params(48), Outs: firstNumbers(48)}
	rightGraph(t, g, fmt.Sprint(slices.Repeat(in(l(2)), 48)))
	if got := graph.Params(g); !slices.Equal(got, firstNumbers(48)) {
		t.Errorf("Params of 48: %v", got)
	}
	for _, nodes := range l(49, 64, 256, 304, 1<<16) {
		wrongGraph(t, api.Graph{Nodes: params(nodes)}, api.ErrLong)
		wrongGraph(t, api.Graph{Nodes: make([]api.Node, nodes)}, api.ErrLong)
		wrongGraph(t, api.Graph{Nodes: params(1), Outs: make([]int, nodes)}, api.ErrLong)
		wrongGraph(t, api.Graph{Outs: slices.Repeat(l(-1), nodes)}, api.ErrLong)
	}
}

// TestNodesAhead: a node takes those ahead of it alone, and any of them as often as it wants.
func TestNodesAhead(t *testing.T) {
	for place := range 6 {
		for _, k := range append(firstNumbers(7), far...) {
			for _, in := range [][]int{{k}, {k, k}, {k, k, k}} {
				n := api.Node{Op: []int{api.Neg, api.Mul, api.Select}[len(in)-1], In: in}
				g := api.Graph{Nodes: slices.Insert(params(6), place, n)}
				if k < 0 || k >= place {
					wrongGraph(t, g, api.ErrIndex)
				} else {
					rightGraph(t, g, "[[2] [2] [2] [2] [2] [2] [2]]")
				}
			}
			if k < 0 || k >= place {
				for _, in := range [][]int{{k, 0}, {0, k}, {0, k, 0}} {
					wrongGraph(t, api.Graph{Nodes: slices.Insert(params(6), place, api.Node{Op: api.Select, In: in})}, api.ErrIndex)
				}
			}
		}
	}
	wrongGraph(t, api.Graph{Nodes: []api.Node{{Op: api.Neg, In: l(0)}}}, api.ErrIndex)
	// Nodes that an op does not take are asked for their place first, an op that is none too.
	wrongGraph(t, api.Graph{Nodes: []api.Node{{Op: api.Param, In: l(0)}}}, api.ErrIndex)
	wrongGraph(t, api.Graph{Nodes: []api.Node{{Op: 99, In: l(5)}}}, api.ErrIndex)
	wrongGraph(t, api.Graph{Nodes: []api.Node{{Op: api.Param}, {Op: api.Param, In: l(0)}}}, api.ErrArg)
	rightGraph(t, api.Graph{Nodes: []api.Node{{Op: api.Param, Shape: l(1, 3)}, {Op: api.Join, In: make([]int, 32), A: l(0)}}}, "[[1 3] [32 3]]")
	wrongGraph(t, api.Graph{Nodes: []api.Node{{Op: api.Param, Shape: l(1, 3)}, {Op: api.Join, In: make([]int, 33), A: l(0)}}}, api.ErrShape)
}

// TestEachOpInGraphs: each op takes Params of those shapes, and its answer is taken again.
func TestEachOpInGraphs(t *testing.T) {
	for _, c := range append(instances(), someCalls()...) {
		var nodes []api.Node
		for i, s := range c.in {
			nodes = append(nodes, api.Node{Op: api.Param, Shape: s})
			c.n.In = append(c.n.In, i)
		}
		k := len(nodes)
		g := api.Graph{Nodes: append(nodes, c.n, api.Node{Op: api.Neg, In: l(k)}, api.Node{Op: api.Less, In: l(k, k+1)}), Outs: l(k+2, k)}
		want, why := judged(g)
		judgedGraph(t, g, want, why)
	}
}

// TestNotes: each is such as layer 9 tells of the mesh's names and the node's rank.
func TestNotes(t *testing.T) {
	signs := []string{" ", ".", "é", "x", "世", "z", "\xff"}
	var notes []string
	eachList(4, firstNumbers(len(signs)), func(l []int) {
		s := ""
		for _, i := range l {
			s += signs[i]
		}
		notes = append(notes, s)
	})
	notes = append(notes, strings.Repeat(" ", 16), strings.Repeat(" ", 17), strings.Repeat(" ", 15)+".", strings.Repeat(" ", 16)+".", "é          x   ", strings.Repeat(".", 17))
	for axes := range 4 {
		g := api.Graph{Sizes: slices.Repeat(l(2), axes), Names: runesNamed(axes)}
		for rank := range 5 {
			for _, note := range notes {
				g.Nodes = []api.Node{{Op: api.Param, Shape: slices.Repeat(l(3), rank), Note: note}}
				_, _, why := names.Note(g.Names, note, rank)
				judgedGraph(t, g, [][]int{g.Nodes[0].Shape}, why)
			}
		}
	}
}

// TestNotesOfMore: notes that are no spec, and ones of another rank.
func TestNotesOfMore(t *testing.T) {
	one := func(note string, s ...int) api.Graph {
		return api.Graph{Sizes: l(2, 3), Names: "xy", Nodes: []api.Node{{Op: api.Param, Shape: s, Note: note}}}
	}
	for blanks := range 17 {
		rightGraph(t, one(strings.Repeat(" ", blanks), 4, 6), "[[4 6]]")
		rightGraph(t, one(strings.Repeat(" ", blanks)), "[[]]")
	}
	wrongGraph(t, one(strings.Repeat(" ", 17), 4, 6), api.ErrNote)
	wrongGraph(t, one(strings.Repeat(" ", 17)), api.ErrNote)
	rightGraph(t, one("x ", 4), "[[4]]")
	wrongGraph(t, one("x", 4, 6), api.ErrNote)
	wrongGraph(t, one("xy", 4), api.ErrNote)
	wrongGraph(t, one("xx", 4, 6), api.ErrNote)
	wrongGraph(t, one(".", nil...), api.ErrNote)
	wrongGraph(t, one("z", 4), api.ErrNote)
	// The rank is that of what the node gives, not of what it takes, nor of its own Shape.
	g := one("xy", 4, 6)
	g.Nodes = append(g.Nodes, api.Node{Op: api.Fold, In: l(0), A: l(1), How: api.Sum, Note: "x"})
	rightGraph(t, g, "[[4 6] [4]]")
	g.Nodes[1].Note = "xy"
	wrongGraph(t, g, api.ErrNote)
}

// TestOuts: each is a node, told as often as wanted.
func TestOuts(t *testing.T) {
	for nodes := range 5 {
		for _, k := range append(firstNumbers(6), far...) {
			for _, outs := range [][]int{{k}, {k, k}, {0, k}, {k, 0, k}} {
				g := api.Graph{Nodes: params(nodes), Outs: outs}
				if k < 0 || k >= nodes {
					wrongGraph(t, g, api.ErrIndex)
				} else {
					rightGraph(t, g, fmt.Sprint(slices.Repeat(in(l(2)), nodes)))
				}
			}
		}
	}
}

// fault is a way to make sample wrong: what Right says of it, and when it comes to it (the lesser, the sooner).
type fault struct {
	when int
	why  api.Errno
	do   func(g *api.Graph)
}

// When Right comes to what: the mesh, how many, each node's In, Shape, Note, the outs.
const (
	whenMesh = iota
	whenLong
	whenNodes
	whenOuts = 1 << 20
)

// nodeFaults are those of the i-th node of sample.
func nodeFaults(i int) []fault {
	var all []fault
	add := func(step int, why api.Errno, do func(n *api.Node)) {
		all = append(all, fault{whenNodes + 3*i + step, why, func(g *api.Graph) { do(&g.Nodes[i]) }})
	}
	for _, k := range l(-1, i, i+1, math.MaxInt, math.MinInt) {
		add(0, api.ErrIndex, func(n *api.Node) { n.In = append(slices.Clone(n.In), k) })
		add(0, api.ErrIndex, func(n *api.Node) { n.In = append(l(k), n.In...) })
	}
	if i > 0 {
		// Behind so many more no op but Join may be.
		add(1, map[bool]api.Errno{true: api.ErrShape, false: api.ErrArg}[sample().Nodes[i].Op == api.Join], func(n *api.Node) { n.In = append(slices.Clone(n.In), 0, 0, 0, 0, 0, 0) })
	}
	add(1, api.ErrArg, func(n *api.Node) { n.Op = 99 })
	add(1, api.ErrArg, func(n *api.Node) { n.Op, n.N, n.How = -1, 5, 5 })
	for _, note := range []string{"z", "xx", "xéx", "-", "x.x.x", strings.Repeat(" ", 17), "\xff"} {
		add(2, api.ErrNote, func(n *api.Node) { n.Note = note })
	}
	return all
}

// faults are those of the mesh, of how many there are, of all nodes, and of the outs.
func faults() []fault {
	var all []fault
	for _, sizes := range [][]int{{0, 3}, {3, 3}, {2, 9}, {-1, -1}, {1, 1, 1, 1}, {math.MaxInt, 2}, {math.MinInt, 2}} {
		all = append(all, fault{whenMesh, api.ErrMesh, func(g *api.Graph) { g.Sizes = sizes }})
	}
	for _, s := range []string{"xx", "x.", "é", "", "xéz", "x\xff"} {
		all = append(all, fault{whenMesh, api.ErrMesh, func(g *api.Graph) { g.Names = s }})
	}
	all = append(all,
		fault{whenLong, api.ErrLong, func(g *api.Graph) { g.Nodes = append(g.Nodes, params(48)...) }},
		fault{whenLong, api.ErrLong, func(g *api.Graph) { g.Outs = append(g.Outs, make([]int, 48)...) }})
	for i := range sample().Nodes {
		all = append(all, nodeFaults(i)...)
	}
	shapeFault := func(i int, why api.Errno, do func(n *api.Node)) {
		all = append(all, fault{whenNodes + 3*i + 1, why, func(g *api.Graph) { do(&g.Nodes[i]) }})
	}
	shapeFault(0, api.ErrShape, func(n *api.Node) { n.Shape = l(33) })
	shapeFault(1, api.ErrArg, func(n *api.Node) { n.A = l(0) })
	shapeFault(2, api.ErrShape, func(n *api.Node) { n.Shape = l(4, 6, -1) })
	shapeFault(3, api.ErrShape, func(n *api.Node) { n.In = l(0, 1) })
	shapeFault(4, api.ErrArg, func(n *api.Node) { n.How = api.Sum })
	shapeFault(5, api.ErrArg, func(n *api.Node) { n.How = 0 })
	shapeFault(6, api.ErrArg, func(n *api.Node) { n.N = -1 })
	shapeFault(7, api.ErrShape, func(n *api.Node) { n.A = l(32, 0) })
	shapeFault(8, api.ErrArg, func(n *api.Node) { n.A = l(2) })
	shapeFault(9, api.ErrShape, func(n *api.Node) { n.In = l(5, 7) })
	for _, k := range l(-1, 58, math.MaxInt, math.MinInt) {
		all = append(all, fault{whenOuts, api.ErrIndex, func(g *api.Graph) { g.Outs[3] = k }})
	}
	return all
}

// TestFirstFault: of any two things that are wrong Right tells the one that the chapter names first (R3, R8).
func TestFirstFault(t *testing.T) {
	all := faults()
	for i, f := range all {
		g := sample()
		f.do(&g)
		wrongGraph(t, g, f.why)
		for _, other := range all[i+1:] {
			for _, pair := range [][]fault{{f, other}, {other, f}} {
				g := sample()
				pair[0].do(&g)
				pair[1].do(&g)
				_, want := judged(g)
				if first := min(f.when, other.when); !oneNode(f, other) && want != map[int]api.Errno{f.when: f.why, other.when: other.why}[first] {
					t.Fatalf("%s: %d is named first", short(g), first)
				}
				wrongGraph(t, g, want)
			}
		}
	}
}

// oneNode tells whether both faults are of one node, where the later one may write over the sooner one.
func oneNode(a, b fault) bool {
	const node = 3
	return min(a.when, b.when) >= whenNodes && max(a.when, b.when) < whenOuts && (a.when-whenNodes)/node == (b.when-whenNodes)/node
}

// fewNodes: ones that go together in some orders, and ones that never may be.
func fewNodes() []api.Node {
	return []api.Node{
		{Op: api.Param}, {Op: api.Param, Shape: l(2, 3), Note: "x."}, {Op: api.Param, Shape: l(3), Note: "y"}, {Op: api.Fill, Shape: l(2, 3), N: 1}, {Op: api.Iota, Shape: l(0, 3), A: l(1)},
		{Op: api.Neg, In: l(0)}, {Op: api.Neg, In: l(1), Note: "x"}, {Op: api.Neg, In: l(2)}, {Op: api.Add, In: l(0, 1)}, {Op: api.Add, In: l(0, 0), Note: " "}, {Op: api.Select, In: l(0, 1, 0)},
		{Op: api.Turn, In: l(0), A: l(1, 0), Note: "y x"}, {Op: api.Spread, In: l(0), Shape: l(2, 3), A: l(1)}, {Op: api.Slice, In: l(1), A: l(1, 2)}, {Op: api.Pad, In: l(0), A: l(0, 1), N: 4}, {Op: api.Join, In: l(0, 1), A: l(0)},
		{Op: api.Fold, In: l(0), A: l(0), How: api.Sum}, {Op: api.Fold, In: l(1), How: api.Most, Note: "xx"}, {Op: api.Dot, In: l(0, 1), A: l(0)}, {Op: api.Window, In: l(0), A: l(0, 2, 1), How: api.Least},
		{Op: 0}, {Op: api.Param, Shape: l(33)}, {Op: api.Param, Note: "z"}, {Op: api.Neg}, {Op: api.Fold, In: l(0), A: l(0)},
	}
}

// TestOfFewNodes: all graphs of 0 to 3 of those nodes, over meshes of 0 to 3 axes.
func TestOfFewNodes(t *testing.T) {
	nodes := fewNodes()
	eachList(3, firstNumbers(len(nodes)), func(picks []int) {
		g := api.Graph{Outs: slices.Repeat(l(len(picks)-1), len(picks))}
		for _, k := range picks {
			g.Nodes = append(g.Nodes, nodes[k])
		}
		for _, s := range []string{"", "y", "xy", "zxy"} {
			g.Names, g.Sizes = s, slices.Repeat(l(2), len(s))
			want, why := judged(g)
			judgedGraph(t, g, want, why)
		}
	})
}

func TestParams(t *testing.T) {
	p, n := api.Node{Op: api.Param}, api.Node{Op: api.Neg}
	for _, c := range []struct {
		nodes []api.Node
		want  []int
	}{
		{nil, nil},
		{[]api.Node{n}, nil},
		{[]api.Node{p}, l(0)},
		{[]api.Node{n, p}, l(1)},
		{[]api.Node{p, n, p}, l(0, 2)},
		{[]api.Node{p, p, p}, l(0, 1, 2)},
		{[]api.Node{n, p, n, n, p, p}, l(1, 4, 5)},
		// Of any graph: nodes that may not be are Params by their Op alone.
		{[]api.Node{{Op: 99}, {Op: api.Param, Shape: l(99), In: l(-1), A: l(1), N: 1, How: 1, Note: "zz"}, {}, {Op: -1}, {Op: 1 << 32}, {Op: 1<<32 + 1}}, l(1)},
		{append(params(100), n, p), append(firstNumbers(100), 101)},
	} {
		for _, g := range []api.Graph{{Nodes: c.nodes}, {Nodes: c.nodes, Sizes: l(-1), Names: "xx", Outs: l(99)}} {
			if got := graph.Params(g); !slices.Equal(got, c.want) {
				t.Errorf("Params(%s): %v, not %v", short(g), got, c.want)
			}
		}
	}
	if got := graph.Params(sample()); !slices.Equal(got, l(0, 6)) {
		t.Errorf("Params of sample: %v", got)
	}
}

// anyGraph makes one that may not be, with something in each list.
func anyGraph() api.Graph {
	return api.Graph{
		Sizes: l(-1, 9, math.MaxInt, 0),
		Names: "xx\xff",
		Nodes: []api.Node{
			{Op: 99, In: l(5, -1), Shape: l(33, -1), A: l(math.MinInt), N: least, How: 7, Note: "zz\xff"},
			{},
			{Op: api.Param, In: l(1, 2, 3), Shape: l(1, 2, 3, 4, 5, 6), A: l(0, 0), N: great, How: -1, Note: " "},
		},
		Outs: l(-5, 99, -5),
	}
}

// changedLists are l with one number other, one more, and one less; each a list of its own.
func changedLists(list []int) [][]int {
	all := in(append(slices.Clone(list), 0), append(l(7), list...))
	for i := range list {
		for _, n := range l(list[i]+1, list[i]^math.MinInt, list[i]^1<<32) {
			one := slices.Clone(list)
			one[i] = n
			all = append(all, one)
		}
		all = append(all, slices.Delete(slices.Clone(list), i, i+1))
	}
	if len(list) == 2 && list[0] != list[1] {
		all = append(all, l(list[1], list[0]))
	}
	return all
}

// changedTexts are s with something other.
func changedTexts(s string) []string {
	all := []string{s + " ", " " + s, s + "\x00", s + s + "x"}
	if s != "" {
		all = append(all, "", s[1:], s[:len(s)-1], "q"+s[1:])
	}
	if r := strings.ToValidUTF8(s, "\ufffd"); r != s {
		all = append(all, r)
	}
	return all
}

// eachChanged hands over g with one thing changed, all that it has in turn.
func eachChanged(g api.Graph, look func(c api.Graph)) {
	lists := func(list []int, put func(c *api.Graph, l []int)) {
		for _, other := range changedLists(list) {
			c := g
			c.Nodes = slices.Clone(g.Nodes)
			put(&c, other)
			look(c)
		}
	}
	lists(g.Sizes, func(c *api.Graph, l []int) { c.Sizes = l })
	lists(g.Outs, func(c *api.Graph, l []int) { c.Outs = l })
	for _, s := range changedTexts(g.Names) {
		c := g
		c.Names = s
		look(c)
	}
	for i, n := range g.Nodes {
		lists(n.In, func(c *api.Graph, l []int) { c.Nodes[i].In = l })
		lists(n.Shape, func(c *api.Graph, l []int) { c.Nodes[i].Shape = l })
		lists(n.A, func(c *api.Graph, l []int) { c.Nodes[i].A = l })
		var others []api.Node
		for _, bit := range []uint{0, 1, 32, 63} {
			a, b, c := n, n, n
			a.Op ^= 1 << bit
			b.N ^= 1 << bit
			c.How ^= 1 << bit
			others = append(others, a, b, c)
		}
		for _, s := range changedTexts(n.Note) {
			a := n
			a.Note = s
			others = append(others, a)
		}
		for _, other := range others {
			c := g
			c.Nodes = slices.Clone(g.Nodes)
			c.Nodes[i] = other
			look(c)
		}
		c := g
		c.Nodes = slices.Delete(slices.Clone(g.Nodes), i, i+1)
		look(c)
	}
	c := g
	c.Nodes = append(slices.Clone(g.Nodes), api.Node{})
	look(c)
	c.Nodes = append([]api.Node{{Op: api.Param}}, g.Nodes...)
	look(c)
}

func someGraphs() []api.Graph {
	return []api.Graph{{}, sample(), anyGraph(), {Sizes: l(1, 2)}, {Names: "x"}, {Nodes: params(2)}, {Nodes: make([]api.Node, 3)}, {Outs: l(1, 2)}, {Sizes: l(2), Names: "é", Nodes: fewNodes(), Outs: l(1)}}
}

// TestSame: of any two graphs, told apart by each thing that they have.
func TestSame(t *testing.T) {
	for i, g := range someGraphs() {
		for k, other := range someGraphs() {
			if got := graph.Same(g, other); got != (i == k) {
				t.Errorf("Same(%+v, %+v): %v", g, other, got)
			}
		}
		eachChanged(g, func(c api.Graph) {
			if graph.Same(g, c) || graph.Same(c, g) {
				t.Errorf("Same(%+v, %+v): true", g, c)
			}
			if !graph.Same(c, c) {
				t.Errorf("Same of %+v and itself: false", c)
			}
		})
	}
	// A thing that stands elsewhere is not the same.
	one, other := api.Graph{Sizes: l(1)}, api.Graph{Outs: l(1)}
	if graph.Same(one, other) {
		t.Error("Same of Sizes and Outs")
	}
	a, b := api.Node{In: l(1), Shape: l(2), A: l(3)}, api.Node{In: l(3), Shape: l(1), A: l(2)}
	if graph.Same(api.Graph{Nodes: []api.Node{a}}, api.Graph{Nodes: []api.Node{b}}) || graph.Same(api.Graph{Nodes: []api.Node{a, b}}, api.Graph{Nodes: []api.Node{b, a}}) {
		t.Error("Same of other nodes")
	}
	if graph.Same(api.Graph{Names: "\xff"}, api.Graph{Names: "\ufffd"}) || graph.Same(api.Graph{Nodes: []api.Node{{Note: "x."}}}, api.Graph{Nodes: []api.Node{{Note: "x ."}}}) {
		t.Error("Same of other texts")
	}
}

// graphLists are all lists of numbers of g, with all of their room, and those of the nodes behind its own too.
func graphLists(g api.Graph) [][]int {
	all := in(g.Sizes, g.Outs)
	for _, n := range g.Nodes[:cap(g.Nodes)] {
		all = append(all, n.In, n.Shape, n.A)
	}
	for i, s := range all {
		all[i] = s[:cap(s)]
	}
	return all
}

// told is all of g, its spare room included, as a text.
func told(g api.Graph) string {
	nodes := slices.Clone(g.Nodes[:cap(g.Nodes)])
	for i, n := range nodes {
		nodes[i].In, nodes[i].Shape, nodes[i].A = n.In[:cap(n.In)], n.Shape[:cap(n.Shape)], n.A[:cap(n.A)]
	}
	return fmt.Sprintf("%v %q %+v %v", g.Sizes[:cap(g.Sizes)], g.Names, nodes, g.Outs[:cap(g.Outs)])
}

// overwrite writes over all of g's room.
func overwrite(g api.Graph) {
	for _, list := range graphLists(g) {
		scribble(list, -77)
	}
	scribble(g.Nodes, api.Node{Op: -77, N: -77, How: -77, Note: "overwritten"})
}

// roomyGraph makes g anew, its lists with spare room that is full of n.
func roomyGraph(g api.Graph, n int) api.Graph {
	r := g
	r.Sizes, r.Outs = roomy(n, g.Sizes...), roomy(n, g.Outs...)
	r.Nodes = roomy(api.Node{Op: n, In: l(n), Shape: l(n), A: l(n), N: int64(n), How: n, Note: "n"}, g.Nodes...)
	for i, k := range g.Nodes {
		r.Nodes[i].In, r.Nodes[i].Shape, r.Nodes[i].A = roomy(n, k.In...), roomy(n, k.Shape...), roomy(n, k.A...)
	}
	return r
}

// TestCopy: of any graph, with no memory of it, and no two lists with the same.
func TestCopy(t *testing.T) {
	for _, g := range someGraphs() {
		want := fmt.Sprintf("%q", fmt.Sprintf("%+v", g))
		c := graph.Copy(g)
		if got := fmt.Sprintf("%q", fmt.Sprintf("%+v", c)); got != want || !graph.Same(c, g) {
			t.Errorf("Copy(%s): %s", want, got)
		}
		r := roomyGraph(g, 5)
		before := told(r)
		first, second := graph.Copy(r), graph.Copy(r)
		asMade := told(second)
		overwrite(first)
		if told(r) != before || told(second) != asMade {
			t.Errorf("Copy(%s): shares memory", want)
		}
		overwrite(r)
		if told(second) != asMade || !graph.Same(second, g) {
			t.Errorf("Copy(%s): keeps what is handed in", want)
		}
		eachOwn(t, graphLists(second))
	}
}

// TestCopyOfOneList: a list that stands everywhere in a graph is copied everywhere by itself.
func TestCopyOfOneList(t *testing.T) {
	s := roomy(3, 1, 1)
	n := api.Node{Op: api.Add, In: s, Shape: s, A: s}
	c := graph.Copy(api.Graph{Sizes: s, Names: "xy", Nodes: []api.Node{n, n}, Outs: s})
	eachOwn(t, graphLists(c))
}

// eachOwn tells whether writing over each list, its spare room too, leaves all others as they are.
func eachOwn(t *testing.T, all [][]int) {
	t.Helper()
	for i, list := range all {
		all[i] = list[:cap(list)]
	}
	for i, list := range all {
		before := kept(all)
		scribble(list, -1000-i)
		before[i] = slices.Clone(list)
		if !alike(all, before) {
			t.Errorf("list %d shares memory with another one", i)
		}
	}
}

// TestShapesAreNew: writing over an answer, its spare room included, changes nothing that was handed in, no other answer, and no other list of it (R2).
func TestShapesAreNew(t *testing.T) {
	for _, g := range append(someGraphs(), api.Graph{Nodes: params(48), Outs: l(1)}) {
		r := roomyGraph(g, 1)
		before := told(r)
		first, _ := graph.Shapes(r)
		second, why := graph.Shapes(r)
		params, more := graph.Params(r), graph.Params(r)
		saved, savedMore := kept(second), slices.Clone(more)
		eachOwn(t, first)
		scribble(first, l(-77))
		scribble(params, -77)
		if told(r) != before {
			t.Errorf("%s: changed", short(g))
		}
		overwrite(r)
		if !alike(second, saved) || !slices.Equal(more, savedMore) {
			t.Errorf("%s: an answer shares memory", short(g))
		}
		judgedGraph(t, g, saved, why)
		if got := graph.Params(g); !slices.Equal(got, savedMore) {
			t.Errorf("Params(%s): %v", short(g), got)
		}
	}
}

// TestGraphIsKept: no call changes a graph, its spare room included (R2).
func TestGraphIsKept(t *testing.T) {
	all := someGraphs()
	for _, f := range faults() {
		g := sample()
		f.do(&g)
		all = append(all, g)
	}
	for _, g := range all {
		r := roomyGraph(g, 1)
		before := told(r)
		graph.Right(r)
		graph.Shapes(r)
		graph.Params(r)
		graph.Copy(r)
		graph.Same(r, sample())
		graph.Same(sample(), r)
		graph.Same(r, roomyGraph(g, 2))
		if told(r) != before || len(r.Nodes) != len(g.Nodes) {
			t.Errorf("%s: changed", short(g))
		}
	}
}

// TestSpareRoomOfGraphs: what lies behind a list does not change what is answered (R5).
func TestSpareRoomOfGraphs(t *testing.T) {
	for _, g := range append(someGraphs(), api.Graph{Nodes: params(48), Outs: make([]int, 48)}, api.Graph{Sizes: l(2, 2, 2), Names: "xyz"}) {
		want, why := graph.Shapes(g)
		for _, n := range []int{0, 1, 2, -1, math.MaxInt} {
			r := roomyGraph(g, n)
			judgedGraph(t, r, want, why)
			if !graph.Same(r, g) || !graph.Same(g, r) || !graph.Same(r, roomyGraph(g, n+1)) || !slices.Equal(graph.Params(r), graph.Params(g)) {
				t.Errorf("%s: another answer with spare room of %d", short(g), n)
			}
		}
	}
}

// TestNilAndEmptyLists: they mean the same (R4).
func TestNilAndEmptyLists(t *testing.T) {
	none := func(list []int) []int {
		if len(list) == 0 {
			return []int{}
		}
		return list
	}
	for _, g := range someGraphs() {
		e := graph.Copy(g)
		e.Sizes, e.Outs = none(e.Sizes), none(e.Outs)
		for i, n := range e.Nodes {
			e.Nodes[i].In, e.Nodes[i].Shape, e.Nodes[i].A = none(n.In), none(n.Shape), none(n.A)
		}
		if len(e.Nodes) == 0 {
			e.Nodes = []api.Node{}
		}
		want, why := graph.Shapes(g)
		judgedGraph(t, e, want, why)
		if !graph.Same(e, g) || !graph.Same(g, e) || !slices.Equal(graph.Params(e), graph.Params(g)) {
			t.Errorf("%s: another answer of empty lists", short(g))
		}
	}
}

// TestLongGraphs: calls end, of long lists and texts too (R1).
func TestLongGraphs(t *testing.T) {
	const long = 1 << 20
	for _, n := range []int{0, 1, -1, math.MaxInt, math.MinInt} {
		list := slices.Repeat(l(n), long)
		wrongGraph(t, api.Graph{Sizes: list}, api.ErrMesh)
		wrongGraph(t, api.Graph{Sizes: list, Names: strings.Repeat("x", long)}, api.ErrMesh)
		wrongGraph(t, api.Graph{Outs: list}, api.ErrLong)
		for _, node := range []api.Node{{Op: api.Join, In: list, A: l(0)}, {Op: api.Param, In: list}} {
			want := api.ErrArg
			if n < 0 || n > 1 {
				want = api.ErrIndex
			} else if node.Op == api.Join {
				want = api.ErrShape
			}
			wrongGraph(t, api.Graph{Nodes: append(params(2), node)}, want)
		}
		wrongGraph(t, api.Graph{Nodes: []api.Node{{Op: api.Param, Shape: list}}}, api.ErrShape)
		wrongGraph(t, api.Graph{Nodes: []api.Node{{Op: api.Param, A: list}}}, api.ErrArg)
		g := api.Graph{Sizes: list, Names: strings.Repeat("x", long), Nodes: append(params(2), api.Node{In: list, Shape: list, A: list, Note: strings.Repeat(".", long)}), Outs: list}
		c := graph.Copy(g)
		if !graph.Same(c, g) || len(graph.Params(g)) != 2 {
			t.Errorf("Copy, Same, Params of long lists of %d", n)
		}
		c.Nodes[2].A[long-1]++
		if graph.Same(c, g) {
			t.Errorf("Same of long lists of %d", n)
		}
	}
	wrongGraph(t, api.Graph{Nodes: []api.Node{{Op: api.Param, Note: strings.Repeat(" ", long)}}}, api.ErrNote)
	g := api.Graph{Nodes: params(long)}
	wrongGraph(t, g, api.ErrLong)
	if len(graph.Params(g)) != long || !graph.Same(graph.Copy(g), g) {
		t.Error("Params, Copy of many nodes")
	}
	g = api.Graph{Nodes: []api.Node{{Op: api.Param, Shape: l(0, 32)}, {Op: api.Join, In: make([]int, long), A: l(0)}}}
	rightGraph(t, api.Graph{Nodes: g.Nodes[:1]}, "[[0 32]]")
	if got, why := graph.Shapes(g); why != api.OK || fmt.Sprint(got) != "[[0 32] [0 32]]" {
		t.Errorf("Shapes of a long Join: %v, %d", got, int(why))
	}
}
