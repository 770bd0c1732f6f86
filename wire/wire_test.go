// Tests of P12.1's Name, Number and Text: ordinary inputs, edges, each refusal.
package wire_test

import (
	"fmt"
	"math"
	"slices"
	"strings"
	"testing"

	"parquetry/api"
	"parquetry/wire"
)

func TestName(t *testing.T) {
	for _, c := range []struct {
		op   int
		want string
	}{
		{api.Param, "param"},
		{api.Fill, "fill"},
		{api.Iota, "iota"},
		{api.Neg, "neg"},
		{api.Not, "not"},
		{api.Add, "add"},
		{api.Sub, "sub"},
		{api.Mul, "mul"},
		{api.Min, "min"},
		{api.Max, "max"},
		{api.Less, "less"},
		{api.Select, "select"},
		{api.Turn, "turn"},
		{api.Spread, "spread"},
		{api.Slice, "slice"},
		{api.Pad, "pad"},
		{api.Join, "join"},
		{api.Fold, "fold"},
		{api.Dot, "dot"},
		{api.Window, "window"},
	} {
		if got := wire.Name(c.op); got != c.want {
			t.Errorf("Name(%d): %q, not %q", c.op, got, c.want)
		}
	}
}

// TestNameOfNone: there are no others, on either side, as far as an int goes.
func TestNameOfNone(t *testing.T) {
	for op := -300; op <= 300; op++ {
		if got := wire.Name(op); op < api.Param && got != "" || op > api.Window && got != "" {
			t.Errorf("Name(%d): %q", op, got)
		}
	}
	for bit := range 64 {
		for _, op := range l(1<<bit, -1<<bit, 1<<bit+api.Param, 1<<bit+api.Dot, math.MaxInt-bit, math.MinInt+bit) {
			if op >= api.Param && op <= api.Window {
				continue
			}
			if got := wire.Name(op); got != "" {
				t.Errorf("Name(%d): %q", op, got)
			}
		}
	}
}

func TestNumber(t *testing.T) {
	for _, c := range []struct {
		n    int64
		want string
	}{
		{0, "0"},
		{1, "1"},
		{-1, "-1"},
		{9, "9"},
		{10, "10"},
		{-10, "-10"},
		{120, "120"},
		{-99, "-99"},
		{1000000, "1000000"},
		{math.MaxInt8 + 1, "128"},
		{math.MinInt8 - 1, "-129"},
		{math.MaxInt32, "2147483647"},
		{math.MaxInt32 + 1, "2147483648"},
		{math.MinInt32, "-2147483648"},
		{math.MinInt32 - 1, "-2147483649"},
		{math.MaxUint32, "4294967295"},
		{1 << 53, "9007199254740992"},
		{1<<53 + 1, "9007199254740993"},
		{great - 1, "9223372036854775806"},
		{great, "9223372036854775807"},
		{least + 1, "-9223372036854775807"},
		{least, "-9223372036854775808"},
	} {
		if got := wire.Number(c.n); got != c.want {
			t.Errorf("Number(%d): %q, not %q", c.n, got, c.want)
		}
	}
}

// TestNumberOfAll asks all numbers about 0, and those about each power of ten and of two, held against their digits.
func TestNumberOfAll(t *testing.T) {
	for n := int64(-11000); n <= 11000; n++ {
		asDigits(t, n)
	}
	power := int64(1)
	for range 18 {
		power *= 10
		for k := int64(-2); k <= 2; k++ {
			for times := int64(1); times <= 9; times++ {
				asDigits(t, power*times+k)
				asDigits(t, -power*times+k)
			}
		}
	}
	for bit := range 64 {
		for k := int64(-2); k <= 2; k++ {
			asDigits(t, 1<<bit+k)
			asDigits(t, -1<<bit+k)
		}
	}
}

// TestEachOp: a line of each op, with what it asks for in its place.
func TestEachOp(t *testing.T) {
	const ahead = "mesh -\nparam ( ) ( 2 3 ) ( ) 0 0 -\nfill ( ) ( 3 2 ) ( ) 7 0 -\n"
	for _, c := range []struct {
		n    api.Node
		want string
	}{
		{api.Node{Op: api.Param, Shape: l(4, 0, 32)}, "param ( ) ( 4 0 32 ) ( ) 0 0 -"},
		{api.Node{Op: api.Fill, Shape: l(5), N: -12}, "fill ( ) ( 5 ) ( ) -12 0 -"},
		{api.Node{Op: api.Iota, Shape: l(5, 6), A: l(1)}, "iota ( ) ( 5 6 ) ( 1 ) 0 0 -"},
		{api.Node{Op: api.Neg, In: l(1)}, "neg ( 1 ) ( ) ( ) 0 0 -"},
		{api.Node{Op: api.Not, In: l(0)}, "not ( 0 ) ( ) ( ) 0 0 -"},
		{api.Node{Op: api.Add, In: l(0, 0)}, "add ( 0 0 ) ( ) ( ) 0 0 -"},
		{api.Node{Op: api.Sub, In: l(1, 1)}, "sub ( 1 1 ) ( ) ( ) 0 0 -"},
		{api.Node{Op: api.Mul, In: l(0, 0)}, "mul ( 0 0 ) ( ) ( ) 0 0 -"},
		{api.Node{Op: api.Min, In: l(1, 1)}, "min ( 1 1 ) ( ) ( ) 0 0 -"},
		{api.Node{Op: api.Max, In: l(0, 0)}, "max ( 0 0 ) ( ) ( ) 0 0 -"},
		{api.Node{Op: api.Less, In: l(1, 1)}, "less ( 1 1 ) ( ) ( ) 0 0 -"},
		{api.Node{Op: api.Select, In: l(0, 0, 0)}, "select ( 0 0 0 ) ( ) ( ) 0 0 -"},
		{api.Node{Op: api.Turn, In: l(0), A: l(1, 0)}, "turn ( 0 ) ( ) ( 1 0 ) 0 0 -"},
		{api.Node{Op: api.Spread, In: l(1), Shape: l(3, 4, 2), A: l(0, 2)}, "spread ( 1 ) ( 3 4 2 ) ( 0 2 ) 0 0 -"},
		{api.Node{Op: api.Slice, In: l(0), A: l(1, 0, 1, 3)}, "slice ( 0 ) ( ) ( 1 0 1 3 ) 0 0 -"},
		{api.Node{Op: api.Pad, In: l(1), A: l(0, 10, 20, 3), N: great}, "pad ( 1 ) ( ) ( 0 10 20 3 ) 9223372036854775807 0 -"},
		{api.Node{Op: api.Join, In: l(0, 0, 0, 0), A: l(1)}, "join ( 0 0 0 0 ) ( ) ( 1 ) 0 0 -"},
		{api.Node{Op: api.Fold, In: l(0), A: l(0, 1), How: api.Sum}, "fold ( 0 ) ( ) ( 0 1 ) 0 1 -"},
		{api.Node{Op: api.Fold, In: l(1), How: api.Prod}, "fold ( 1 ) ( ) ( ) 0 2 -"},
		{api.Node{Op: api.Dot, In: l(0, 1), A: l(0)}, "dot ( 0 1 ) ( ) ( 0 ) 0 0 -"},
		{api.Node{Op: api.Window, In: l(1), A: l(0, 2, 32), How: api.Least}, "window ( 1 ) ( ) ( 0 2 32 ) 0 3 -"},
		{api.Node{Op: api.Window, In: l(0), A: l(1, 3, 1), How: api.Most}, "window ( 0 ) ( ) ( 1 3 1 ) 0 4 -"},
	} {
		g := api.Graph{Nodes: []api.Node{{Op: api.Param, Shape: l(2, 3)}, {Op: api.Fill, Shape: l(3, 2), N: 7}, c.n}}
		written(t, g, ahead+c.want+"\nouts\n")
		g.Outs = l(2)
		written(t, g, ahead+c.want+"\nouts 2\n")
	}
}

// TestSample: a node of each op, over a mesh, with notes and without, some nodes told, one of them twice.
func TestSample(t *testing.T) {
	written(t, sample(), sampleText)
	g := sample()
	g.Outs = nil
	written(t, g, strings.Replace(sampleText, "outs 21 9 21 0 13 7", "outs", 1))
}

// TestOfNothing: a graph of nothing, a mesh alone.
func TestOfNothing(t *testing.T) {
	written(t, api.Graph{}, "mesh -\nouts\n")
	written(t, api.Graph{Sizes: l(), Nodes: []api.Node{}, Outs: l()}, "mesh -\nouts\n")
	written(t, api.Graph{Sizes: l(1), Names: "d"}, "mesh d 1\nouts\n")
	written(t, api.Graph{Sizes: l(8), Names: "世"}, "mesh 世 8\nouts\n")
	written(t, api.Graph{Sizes: l(2, 4), Names: "xy"}, "mesh xy 2 4\nouts\n")
	written(t, api.Graph{Sizes: l(2, 2, 2), Names: "zéx"}, "mesh zéx 2 2 2\nouts\n")
	written(t, api.Graph{Sizes: l(1, 8, 1), Names: "😀!~"}, "mesh 😀!~ 1 8 1\nouts\n")
	// Names that look like other words are names all the same.
	written(t, api.Graph{Sizes: l(3, 2), Names: "12"}, "mesh 12 3 2\nouts\n")
	// A node that is a lone number, with nothing in its lists.
	written(t, api.Graph{Nodes: []api.Node{{Op: api.Param}}}, "mesh -\nparam ( ) ( ) ( ) 0 0 -\nouts\n")
	written(t, api.Graph{Nodes: []api.Node{{Op: api.Fill}}, Outs: l(0, 0, 0)}, "mesh -\nfill ( ) ( ) ( ) 0 0 -\nouts 0 0 0\n")
}

// TestNotes: a note is written without its blanks, and one of blanks alone as none.
func TestNotes(t *testing.T) {
	for _, c := range []struct {
		names, note string
		rank        int
		want        string
	}{
		{"x", "x .", 2, "x."},
		{"xy", "y .", 2, "y."},
		{"xy", "  y  x  ", 2, "yx"},
		{"xy", "xy", 2, "xy"},
		{"xy", "..", 2, ".."},
		{"xy", " . . ", 2, ".."},
		{"xy", ".", 1, "."},
		{"", "....", 4, "...."},
		{"", ". . . .", 4, "...."},
		{"éx", "x . é", 3, "x.é"},
		{"éx世", "世éx.", 4, "世éx."},
		{"éx世", " 世 ", 1, "世"},
		{"😀", ". 😀", 2, ".😀"},
		{"12", "2 1", 2, "21"},
		{"x", "              x.", 2, "x."},
		{"x", "x.              ", 2, "x."},
		{"x", "", 0, "-"},
		{"x", "", 3, "-"},
		{"x", " ", 0, "-"},
		{"x", " ", 2, "-"},
		{"", "   ", 1, "-"},
		{"éx世", "                ", 4, "-"},
	} {
		sizes, shape := slices.Repeat(l(2), len([]rune(c.names))), slices.Repeat(l(2), c.rank)
		g := api.Graph{Sizes: sizes, Names: c.names, Nodes: []api.Node{{Op: api.Param, Shape: shape, Note: c.note}}}
		n := node("param", nil, shape, nil, 0, 0, c.want)
		written(t, g, lines(mesh(c.names, sizes), n, "outs"))
		// A note is read by the rank of what its own node gives, which need not be that of what it takes.
		g.Nodes = []api.Node{{Op: api.Param, Note: " "}, {Op: api.Spread, In: l(0), Shape: shape, Note: c.note}, {Op: api.Param, Shape: l(1, 1, 1, 1)}}
		n = node("spread", l(0), shape, nil, 0, 0, c.want)
		written(t, g, lines(mesh(c.names, sizes), "param ( ) ( ) ( ) 0 0 -", n, "param ( ) ( 1 1 1 1 ) ( ) 0 0 -", "outs"))
	}
}

// TestNumbersOfNodes: N at both ends of int64 and about 0, How, nodes and lengths of two digits.
func TestNumbersOfNodes(t *testing.T) {
	for _, n := range []int64{0, 1, -1, 9, 10, -10, great, great - 1, least, least + 1, math.MaxInt32 + 1, math.MinInt32 - 1} {
		g := api.Graph{Nodes: []api.Node{{Op: api.Fill, N: n}, {Op: api.Pad, In: l(0), N: n}}, Outs: l(1, 0)}
		written(t, g, fmt.Sprintf("mesh -\nfill ( ) ( ) ( ) %d 0 -\npad ( 0 ) ( ) ( ) %d 0 -\nouts 1 0\n", n, n))
	}
	for how := api.Sum; how <= api.Most; how++ {
		g := api.Graph{Nodes: []api.Node{{Op: api.Param}, {Op: api.Fold, In: l(0), How: how}}}
		written(t, g, fmt.Sprintf("mesh -\nparam ( ) ( ) ( ) 0 0 -\nfold ( 0 ) ( ) ( ) 0 %d -\nouts\n", how))
	}
	for length := range 33 {
		g := api.Graph{Nodes: []api.Node{{Op: api.Param, Shape: l(length, 1)}}}
		written(t, g, fmt.Sprintf("mesh -\nparam ( ) ( %d 1 ) ( ) 0 0 -\nouts\n", length))
	}
}

// TestMany: MaxNodes nodes and outs, each with the one ahead of it.
func TestMany(t *testing.T) {
	g := api.Graph{Nodes: []api.Node{{Op: api.Param}}, Outs: l(47)}
	all := []string{"mesh -", "param ( ) ( ) ( ) 0 0 -"}
	outs := "outs 47"
	for i := 1; i < 48; i++ {
		g.Nodes = append(g.Nodes, api.Node{Op: api.Sub, In: l(i-1, i/2)})
		g.Outs = append(g.Outs, 47-i)
		all = append(all, fmt.Sprintf("sub ( %d %d ) ( ) ( ) 0 0 -", i-1, i/2))
		outs += fmt.Sprintf(" %d", 47-i)
	}
	written(t, g, lines(append(all, outs)...))
	g.Outs = append(g.Outs, 0)
	refused(t, g, api.ErrLong)
	g.Outs = nil
	written(t, g, lines(append(all, "outs")...))
	g.Nodes = append(g.Nodes, api.Node{Op: api.Fill})
	refused(t, g, api.ErrLong)
}

// TestMadeGraphs: each node of any op, told, noted and taken as it comes, held against what the chapter says.
func TestMadeGraphs(t *testing.T) {
	d := &dice{1}
	var seen [api.Window + 1]int
	texts := map[string]bool{}
	for i := range 3000 {
		g := d.graph(i % 49)
		want := said(g)
		written(t, g, want)
		if t.Failed() {
			return
		}
		texts[want] = true
		for _, n := range g.Nodes {
			seen[n.Op]++
		}
	}
	for op, many := range seen[1:] {
		if many < 100 {
			t.Errorf("op %d: in %d nodes alone", op+1, many)
		}
	}
	if len(texts) < 2000 {
		t.Errorf("%d texts alone", len(texts))
	}
}

// TestAtMaxText: a text of just MaxText bytes is written; one of more is refused, wherever it is that makes it longer.
func TestAtMaxText(t *testing.T) {
	for _, ways := range longer() {
		for bytes := api.MaxText - 4; bytes <= api.MaxText+4; bytes++ {
			g := longGraph(bytes - ways.bytes)
			ways.do(&g)
			want := said(g)
			if len(want) != bytes {
				t.Fatalf("%s: a text of %d bytes, not %d", ways.name, len(want), bytes)
			}
			if bytes > 1<<16 {
				refused(t, g, api.ErrLong)
			} else if got, why := wire.Text(g); got != want || why != api.OK {
				t.Errorf("%s: of a text of %d bytes: %d bytes, %d", ways.name, bytes, len(got), int(why))
			}
		}
	}
}

// TestRefusals: graph.Right's, each in its places, handed on with no text.
func TestRefusals(t *testing.T) {
	var seen [26]int
	for _, f := range faults() {
		g := sample()
		f.do(&g)
		refused(t, g, f.why)
		seen[f.why]++
	}
	for _, why := range []api.Errno{api.ErrMesh, api.ErrLong, api.ErrIndex, api.ErrShape, api.ErrArg, api.ErrNote} {
		if seen[why] == 0 {
			t.Errorf("%d is never asked", int(why))
		}
	}
}

// TestTwoRefusals: of each two, that which graph.Right names first.
func TestTwoRefusals(t *testing.T) {
	all := faults()
	for i, first := range all {
		for _, second := range all[i+1:] {
			// Two in one place are one fault, not two.
			if first.place == second.place {
				continue
			}
			g := sample()
			second.do(&g)
			first.do(&g)
			refused(t, g, first.why)
		}
	}
}

// TestRefusedAheadOfLong: what Right refuses is told, however long the text would be.
func TestRefusedAheadOfLong(t *testing.T) {
	for _, bytes := range l(api.MaxText+1, 2*api.MaxText) {
		g := longGraph(bytes)
		refused(t, g, api.ErrLong)
		g.Outs = l(len(g.Nodes))
		refused(t, g, api.ErrIndex)
		g = longGraph(bytes)
		g.Nodes = append(g.Nodes, api.Node{Op: api.Neg, In: l(0), N: 1})
		refused(t, g, api.ErrArg)
		g = longGraph(bytes)
		g.Nodes[1].Note = "x"
		refused(t, g, api.ErrNote)
		g = longGraph(bytes)
		g.Names = "x"
		refused(t, g, api.ErrMesh)
		g = longGraph(bytes)
		g.Nodes = append(g.Nodes, api.Node{Op: api.Add, In: l(0, 2)})
		refused(t, g, api.ErrShape)
	}
}
