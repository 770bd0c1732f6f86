// What the tests of wire hold its answers against: graphs that are written by the chapter's words, asking nothing of the program.
package wire_test

import (
	"fmt"
	"math"
	"slices"
	"strings"
	"testing"

	"parquetry/api"
	"parquetry/wire"
)

const (
	great = math.MaxInt64
	least = math.MinInt64
)

func l(n ...int) []int { return n }

// words are those of the ops, in the chapter's order.
const words = "param fill iota neg not add sub mul min max less select turn spread slice pad join fold dot window"

// digits writes n: from the last digit on, without making a number of the other sign of it.
func digits(n int64) string {
	s := ""
	for rest := n; rest != 0 || s == ""; rest /= 10 {
		digit := rest % 10
		s = "0123456789"[max(digit, -digit):][:1] + s
	}
	if n < 0 {
		return "-" + s
	}
	return s
}

// lines are texts, each ended by byte 10.
func lines(l ...string) string { return strings.Join(l, "\x0a") + "\x0a" }

// mesh is the first line.
func mesh(names string, sizes []int) string {
	if names == "" {
		names = "-"
	}
	return strings.Join(append([]string{"mesh", names}, numbers(sizes)...), " ")
}

// numbers are l, each as a text.
func numbers(l []int) []string {
	var s []string
	for _, n := range l {
		s = append(s, digits(int64(n)))
	}
	return s
}

// node is the line of one.
func node(name string, in, shape, a []int, n int64, how int, note string) string {
	s := name
	for _, list := range [][]int{in, shape, a} {
		s += " ( " + strings.Join(append(numbers(list), ")"), " ")
	}
	return s + fmt.Sprintf(" %s %s %s", digits(n), digits(int64(how)), note)
}

// said is the text of a graph that is Right, however long.
func said(g api.Graph) string {
	all := []string{mesh(g.Names, g.Sizes)}
	for _, n := range g.Nodes {
		note := strings.ReplaceAll(n.Note, " ", "")
		if note == "" {
			note = "-"
		}
		all = append(all, node(strings.Fields(words)[n.Op-api.Param], n.In, n.Shape, n.A, n.N, n.How, note))
	}
	return lines(append(all, strings.Join(append([]string{"outs"}, numbers(g.Outs)...), " "))...)
}

// asDigits tells whether Number writes n so.
func asDigits(t *testing.T, n int64) {
	t.Helper()
	if got := wire.Number(n); got != digits(n) || got != fmt.Sprint(n) {
		t.Errorf("Number(%d): %q, not %q", n, got, digits(n))
	}
}

// written tells whether Text answers that text.
func written(t *testing.T, g api.Graph, want string) {
	t.Helper()
	if got, why := wire.Text(g); got != want || why != api.OK {
		t.Errorf("Text(%s): %q, %d, not %q", short(g), got, int(why), want)
	}
}

// refused tells whether Text answers that refusal, and no text.
func refused(t *testing.T, g api.Graph, want api.Errno) {
	t.Helper()
	if got, why := wire.Text(g); got != "" || why != want {
		t.Errorf("Text(%s): %d bytes, %d, not %d", short(g), len(got), int(why), int(want))
	}
}

// short tells of a graph, at length only if it has little.
func short(g api.Graph) string {
	if s := fmt.Sprintf("%+v", g); len(s) < 2000 {
		return s
	}
	return fmt.Sprintf("a graph of %d sizes, %d nodes, %d outs", len(g.Sizes), len(g.Nodes), len(g.Outs))
}

// sample makes a graph of each op, over a mesh of two axes: lists of all lengths, nodes that are taken twice, told twice, and not told.
func sample() api.Graph {
	return api.Graph{
		Sizes: l(2, 3),
		Names: "xé",
		Nodes: []api.Node{
			{Op: api.Param, Shape: l(2, 3), Note: "x ."},
			{Op: api.Fill, Shape: l(3), N: least, Note: "é"},
			{Op: api.Spread, In: l(1), Shape: l(2, 3), A: l(1)},
			{Op: api.Mul, In: l(0, 2), Note: "  "},
			{Op: api.Param, Shape: l(2, 3)},
			{Op: api.Sub, In: l(3, 4), Note: " é x"},
			{Op: api.Fold, In: l(5), A: l(0), How: api.Most, Note: "x"},
			{Op: api.Param},
			{Op: api.Pad, In: l(6), A: l(1, 2), N: great, Note: " . "},
			{Op: api.Join, In: l(0, 3, 0), A: l(0)},
			{Op: api.Dot, In: l(6, 6), A: l(0)},
			{Op: api.Neg, In: l(7)},
			{Op: api.Less, In: l(10, 7)},
			{Op: api.Select, In: l(12, 11, 10)},
			{Op: api.Turn, In: l(5), A: l(1, 0)},
			{Op: api.Slice, In: l(9), A: l(1, 1, 2, 2), Note: ".."},
			{Op: api.Window, In: l(14), A: l(0, 2, 1), How: api.Sum},
			{Op: api.Iota, Shape: l(2, 2), A: l(1)},
			{Op: api.Max, In: l(16, 17)},
			{Op: api.Not, In: l(17), Note: "éx"},
			{Op: api.Add, In: l(18, 18)},
			{Op: api.Min, In: l(20, 15)},
		},
		Outs: l(21, 9, 21, 0, 13, 7),
	}
}

// sampleText is sample's, by hand.
const sampleText = `mesh xé 2 3
param ( ) ( 2 3 ) ( ) 0 0 x.
fill ( ) ( 3 ) ( ) -9223372036854775808 0 é
spread ( 1 ) ( 2 3 ) ( 1 ) 0 0 -
mul ( 0 2 ) ( ) ( ) 0 0 -
param ( ) ( 2 3 ) ( ) 0 0 -
sub ( 3 4 ) ( ) ( ) 0 0 éx
fold ( 5 ) ( ) ( 0 ) 0 4 x
param ( ) ( ) ( ) 0 0 -
pad ( 6 ) ( ) ( 1 2 ) 9223372036854775807 0 .
join ( 0 3 0 ) ( ) ( 0 ) 0 0 -
dot ( 6 6 ) ( ) ( 0 ) 0 0 -
neg ( 7 ) ( ) ( ) 0 0 -
less ( 10 7 ) ( ) ( ) 0 0 -
select ( 12 11 10 ) ( ) ( ) 0 0 -
turn ( 5 ) ( ) ( 1 0 ) 0 0 -
slice ( 9 ) ( ) ( 1 1 2 2 ) 0 0 ..
window ( 14 ) ( ) ( 0 2 1 ) 0 1 -
iota ( ) ( 2 2 ) ( 1 ) 0 0 -
max ( 16 17 ) ( ) ( ) 0 0 -
not ( 17 ) ( ) ( ) 0 0 éx
add ( 18 18 ) ( ) ( ) 0 0 -
min ( 20 15 ) ( ) ( ) 0 0 -
outs 21 9 21 0 13 7
`

// dice are numbers one behind the other that look like none goes with the other; the same each time.
type dice struct{ state uint64 }

// below is the next one, 0 to n - 1.
func (d *dice) below(n int) int {
	d.state = d.state*6364136223846793005 + 1442695040888963407
	return int(d.state >> 33 % uint64(n))
}

// list is some of the numbers below n, as many as are told, in any order.
func (d *dice) list(many, n int) []int {
	var l []int
	for range many {
		l = append(l, d.below(n))
	}
	return l
}

// number is one of any length, of either sign.
func (d *dice) number() int64 {
	n := int64(d.below(1<<31))<<33 | int64(d.below(1<<31))<<2 | int64(d.below(4))
	return n >> d.below(64)
}

// note is one of an axis of rank 2 each for some of the names, or of nothing, with blanks wherever they may be.
func (d *dice) note(names string) string {
	signs := []string{".", "."}
	for i, r := range []rune(names) {
		if i < 2 && d.below(2) == 0 {
			signs[i] = string(r)
		}
	}
	if d.below(2) == 0 {
		slices.Reverse(signs)
	}
	if d.below(4) == 0 {
		signs = []string{"", ""}
	}
	blanks := func() string { return strings.Repeat(" ", max(0, d.below(8)-3)) }
	return blanks() + signs[0] + blanks() + signs[1] + blanks()
}

// node is one of any op that gives a shape of 0, 0 of nodes that do. Of that shape whatever an op may ask for is easily told.
func (d *dice) node(ahead int) api.Node {
	op := api.Param + d.below(api.Window)
	if ahead == 0 {
		op = api.Param + d.below(3)
	}
	takes := 1
	switch {
	case op <= api.Iota:
		takes = 0
	case op == api.Select:
		takes = 3
	case op >= api.Add && op <= api.Less || op == api.Dot:
		takes = 2
	case op == api.Join:
		takes = 2 + d.below(30)
	}
	n := api.Node{Op: op, In: d.list(takes, max(ahead, 1))}
	switch op {
	case api.Param, api.Spread, api.Fill, api.Iota:
		n.Shape = l(0, 0)
	}
	switch op {
	case api.Iota, api.Join:
		n.A = l(d.below(2))
	case api.Dot:
		n.A = l(0)
	case api.Turn:
		first := d.below(2)
		n.A = l(first, 1-first)
	case api.Spread:
		n.A = l(0, 1)
	case api.Slice, api.Pad:
		n.A = l(0, 0, 0, 0)
	case api.Window:
		n.A = l(d.below(2), 1+d.below(32), 1+d.below(32))
	}
	if op == api.Fill || op == api.Pad {
		n.N = d.number()
	}
	if op == api.Fold || op == api.Window {
		n.How = api.Sum + d.below(4)
	}
	return n
}

// graph is one of that many nodes that may be: all give a shape of 0, 0, but for some that nobody takes.
func (d *dice) graph(nodes int) api.Graph {
	m := []api.Graph{{}, {Sizes: l(1 + d.below(8)), Names: "x"}, {Sizes: l(2, 1+d.below(4)), Names: "éy"}, {Sizes: l(2, 1, 1+d.below(4)), Names: "世😀+"}}[d.below(4)]
	g := api.Graph{Sizes: m.Sizes, Names: m.Names}
	taken := d.below(nodes + 1)
	for i := range nodes {
		n := d.node(i)
		n.Note = d.note(g.Names)
		if i >= taken {
			n = api.Node{Op: api.Param, Shape: d.list(d.below(5), 9)}
		}
		g.Nodes = append(g.Nodes, n)
	}
	// No node behind those takes one, so none is asked of a shape that is another.
	if nodes > 0 {
		g.Outs = d.list(d.below(49), nodes)
	}
	return g
}

// longGraph is one whose text is of that many bytes: a Join of no numbers, over and over, and a Fill with as many digits as are left.
func longGraph(bytes int) api.Graph {
	g := api.Graph{Nodes: []api.Node{{Op: api.Param, Shape: l(0)}, {Op: api.Join, In: l(0, 0), A: l(0)}, {Op: api.Fill, N: 1}}}
	left := bytes - len(said(g))
	g.Nodes[1].In = make([]int, 2+left/2)
	if left%2 == 1 {
		g.Nodes[2].N = 10
	}
	return g
}

// longerBy is a way to make longGraph's text longer by some bytes.
type longerBy struct {
	name  string
	bytes int
	do    func(g *api.Graph)
}

// longer: by nothing, by each part of a text, from its first line to its last.
func longer() []longerBy {
	return []longerBy{
		{"nothing", 0, func(g *api.Graph) {}},
		{"a size", 2, func(g *api.Graph) { g.Sizes, g.Names = l(1), "x" }},
		{"names of more than one byte", 4 + 2 + 5, func(g *api.Graph) { g.Sizes, g.Names = l(1, 1, 2), "世éx" }},
		{"a note", 0, func(g *api.Graph) { g.Nodes[0].Note = " . " }},
		{"a note of more than one byte", 2 + 2 + 2, func(g *api.Graph) {
			g.Sizes, g.Names = l(3), "世"
			g.Nodes[0].Note = " 世 "
		}},
		{"a length", 2, func(g *api.Graph) { g.Nodes[2].Shape = l(7) }},
		{"a last node", 27, func(g *api.Graph) { g.Nodes = append(g.Nodes, api.Node{Op: api.Iota, Shape: l(5), A: l(0)}) }},
		{"a digit", 1, func(g *api.Graph) { g.Nodes[2].N *= 10 }},
		{"a number below 0", 1, func(g *api.Graph) { g.Nodes[2].N *= -1 }},
		{"an out", 2, func(g *api.Graph) { g.Outs = l(2) }},
		{"many outs", 96, func(g *api.Graph) { g.Outs = make([]int, 48) }},
	}
}

// fault is a way to make sample wrong, its refusal, and which part of the graph it is in.
type fault struct {
	why   api.Errno
	place string
	do    func(g *api.Graph)
}

// faults: each refusal of graph.Right, in the order in which it tells them.
func faults() []fault {
	node := func(k int, why api.Errno, do func(n *api.Node)) fault {
		return fault{why, fmt.Sprint(k), func(g *api.Graph) { do(&g.Nodes[k]) }}
	}
	return []fault{
		{api.ErrMesh, "mesh", func(g *api.Graph) { g.Sizes = l(3, 3) }},
		{api.ErrMesh, "mesh", func(g *api.Graph) { g.Sizes = l(0, 3) }},
		{api.ErrMesh, "mesh", func(g *api.Graph) { g.Sizes = l(2, -3) }},
		{api.ErrMesh, "mesh", func(g *api.Graph) { g.Sizes = nil }},
		{api.ErrMesh, "mesh", func(g *api.Graph) { g.Sizes, g.Names = l(1, 1, 1, 1), "xézw" }},
		{api.ErrMesh, "mesh", func(g *api.Graph) { g.Names = "" }},
		{api.ErrMesh, "mesh", func(g *api.Graph) { g.Names = "xx" }},
		{api.ErrMesh, "mesh", func(g *api.Graph) { g.Names = "x-" }},
		{api.ErrMesh, "mesh", func(g *api.Graph) { g.Names = "x\n" }},
		{api.ErrMesh, "mesh", func(g *api.Graph) { g.Names = "x\xff" }},
		{api.ErrLong, "many", func(g *api.Graph) { g.Nodes = append(g.Nodes, make([]api.Node, 27)...) }},
		{api.ErrLong, "many", func(g *api.Graph) { g.Outs = make([]int, 49) }},
		node(0, api.ErrIndex, func(n *api.Node) { n.In = l(0) }),
		node(0, api.ErrShape, func(n *api.Node) { n.Shape = l(33, 3) }),
		node(0, api.ErrNote, func(n *api.Node) { n.Note = "z." }),
		node(1, api.ErrNote, func(n *api.Node) { n.Note = strings.Repeat(" ", 17) }),
		node(2, api.ErrArg, func(n *api.Node) { n.A = l(0) }),
		node(3, api.ErrIndex, func(n *api.Node) { n.In = l(0, 3) }),
		node(3, api.ErrShape, func(n *api.Node) { n.In = l(0, 1) }),
		node(4, api.ErrArg, func(n *api.Node) { n.N = 1 }),
		node(5, api.ErrIndex, func(n *api.Node) { n.In = l(-1, 4) }),
		node(6, api.ErrArg, func(n *api.Node) { n.How = 0 }),
		node(7, api.ErrNote, func(n *api.Node) { n.Note = "." }),
		node(8, api.ErrShape, func(n *api.Node) { n.A = l(30, 2) }),
		node(9, api.ErrIndex, func(n *api.Node) { n.In = l(0, 3, math.MaxInt) }),
		node(10, api.ErrShape, func(n *api.Node) { n.In = l(6, 8) }),
		node(13, api.ErrArg, func(n *api.Node) { n.Op = 0 }),
		node(13, api.ErrArg, func(n *api.Node) { n.Op = api.Window + 1 }),
		node(16, api.ErrArg, func(n *api.Node) { n.A = l(0, 2) }),
		node(21, api.ErrNote, func(n *api.Node) { n.Note = "xx" }),
		{api.ErrIndex, "outs", func(g *api.Graph) { g.Outs = l(22) }},
		{api.ErrIndex, "outs", func(g *api.Graph) { g.Outs = l(0, -1) }},
		{api.ErrIndex, "outs", func(g *api.Graph) { g.Outs = l(math.MinInt, 0) }},
	}
}
