// Tests of the rules R1 to R5 for package wire.
package wire_test

import (
	"fmt"
	"math"
	"slices"
	"strings"
	"testing"

	"parquetry/api"
	"parquetry/wire"
)

// roomy makes a list with spare room that is full of n.
func roomy[T any](n T, l ...T) []T {
	r := slices.Grow(slices.Clone(l), 6)
	for i := range r[len(l):cap(r)] {
		r[len(l):cap(r)][i] = n
	}
	return r
}

// roomyGraph makes g anew, its lists with spare room that is full of k, and of nodes with that much.
func roomyGraph(g api.Graph, k int) api.Graph {
	other := api.Node{Op: k, In: l(k), N: int64(k), Note: "x"}
	g.Sizes, g.Outs = roomy(k, g.Sizes...), roomy(k, g.Outs...)
	g.Nodes = roomy(other, g.Nodes...)
	for i, n := range g.Nodes {
		g.Nodes[i].In, g.Nodes[i].Shape, g.Nodes[i].A = roomy(k, n.In...), roomy(k, n.Shape...), roomy(k, n.A...)
	}
	return g
}

// whole is all of g, its spare room included, as a text.
func whole(g api.Graph) string {
	all := func(l []int) []int { return l[:cap(l)] }
	g.Sizes, g.Outs = all(g.Sizes), all(g.Outs)
	g.Nodes = slices.Clone(g.Nodes[:cap(g.Nodes)])
	for i, n := range g.Nodes {
		g.Nodes[i].In, g.Nodes[i].Shape, g.Nodes[i].A = all(n.In), all(n.Shape), all(n.A)
	}
	return fmt.Sprintf("%+v", g)
}

// overwrite writes over all room of g's lists.
func overwrite(g api.Graph) {
	scribble := func(lists ...[]int) {
		for _, l := range lists {
			for i := range l[:cap(l)] {
				l[:cap(l)][i] = -77
			}
		}
	}
	for i, n := range g.Nodes[:cap(g.Nodes)] {
		scribble(n.In, n.Shape, n.A)
		g.Nodes[:cap(g.Nodes)][i] = api.Node{Op: -77, N: -77}
	}
	scribble(g.Sizes, g.Outs)
}

// someGraphs: ones that are written, ones that are refused.
func someGraphs() []api.Graph {
	d := &dice{2}
	all := []api.Graph{{}, sample(), longGraph(api.MaxText), longGraph(api.MaxText + 1)}
	for i := range 100 {
		all = append(all, d.graph(i%49))
	}
	for _, f := range faults() {
		g := sample()
		f.do(&g)
		all = append(all, g)
	}
	return all
}

// TestHandedInIsKept: Text changes nothing of a graph, spare room included, be it refused or not, and keeps none of it (R2).
func TestHandedInIsKept(t *testing.T) {
	for _, g := range someGraphs() {
		want, refusal := wire.Text(g)
		again := roomyGraph(g, 1)
		before := whole(again)
		got, why := wire.Text(again)
		if whole(again) != before {
			t.Errorf("Text(%s): changed what is handed in", short(g))
		}
		saved := strings.Clone(got)
		overwrite(again)
		if got != saved || got != want || why != refusal {
			t.Errorf("Text(%s): %d bytes, %d, not %d bytes, %d", short(g), len(got), int(why), len(want), int(refusal))
		}
	}
}

// TestAskedAnew: a graph that was changed is written as it is now (R4).
func TestAskedAnew(t *testing.T) {
	g := sample()
	for range 3 {
		written(t, g, sampleText)
		g.Nodes[1].N = 5
		written(t, g, strings.Replace(sampleText, "-9223372036854775808", "5", 1))
		g.Outs[0] = 99
		refused(t, g, api.ErrIndex)
		g.Outs[0] = 20
		written(t, g, strings.Replace(strings.Replace(sampleText, "-9223372036854775808", "5", 1), "outs 21", "outs 20", 1))
		g.Nodes[1].N, g.Outs[0] = least, 21
	}
}

// TestSpareRoom: what lies behind a list does not change what is answered (R5).
func TestSpareRoom(t *testing.T) {
	for _, g := range someGraphs() {
		want, refusal := wire.Text(g)
		for _, k := range l(0, 1, -1, math.MaxInt) {
			if got, why := wire.Text(roomyGraph(g, k)); got != want || why != refusal {
				t.Errorf("Text(%s), with spare room of %d: %d bytes, %d, not %d bytes, %d", short(g), k, len(got), int(why), len(want), int(refusal))
			}
		}
	}
}

// TestNilAndEmpty: they mean the same (R4).
func TestNilAndEmpty(t *testing.T) {
	for _, g := range append(someGraphs(), api.Graph{Nodes: []api.Node{{Op: api.Fill}, {Op: api.Fold, In: l(0), How: api.Sum}}}) {
		want, refusal := wire.Text(g)
		for _, none := range [][]int{nil, {}, roomy(1)} {
			g.Nodes = slices.Clone(g.Nodes)
			lists := []*[]int{&g.Sizes, &g.Outs}
			for i := range g.Nodes {
				lists = append(lists, &g.Nodes[i].In, &g.Nodes[i].Shape, &g.Nodes[i].A)
			}
			for _, list := range lists {
				if len(*list) == 0 {
					*list = none
				}
			}
			if len(g.Nodes) == 0 && none != nil {
				g.Nodes = roomy(api.Node{Op: api.Fill})
			}
			if got, why := wire.Text(g); got != want || why != refusal {
				t.Errorf("Text(%s): %d bytes, %d, not %d bytes, %d", short(g), len(got), int(why), len(want), int(refusal))
			}
		}
	}
}

// TestLongLists: Text ends, of long lists and texts too (R1).
func TestLongLists(t *testing.T) {
	const long = 1 << 18
	for _, k := range l(0, 1, 7, -1, math.MaxInt, math.MinInt) {
		list := slices.Repeat(l(k), long)
		refused(t, api.Graph{Sizes: list}, api.ErrMesh)
		refused(t, api.Graph{Sizes: list, Names: strings.Repeat("x", long)}, api.ErrMesh)
		refused(t, api.Graph{Outs: list}, api.ErrLong)
		refused(t, api.Graph{Nodes: slices.Repeat([]api.Node{{Op: api.Fill, N: int64(k)}}, long)}, api.ErrLong)
		refused(t, api.Graph{Nodes: []api.Node{{Op: api.Fill, Shape: list}}}, api.ErrShape)
		refused(t, api.Graph{Nodes: []api.Node{{Op: api.Fill}, {Op: api.Fold, In: l(0), A: list, How: api.Sum}}}, api.ErrArg)
		want := api.ErrIndex
		if k == 0 {
			want = api.ErrArg
		}
		refused(t, api.Graph{Nodes: []api.Node{{Op: api.Fill}, {Op: api.Neg, In: list}}}, want)
	}
	refused(t, api.Graph{Names: strings.Repeat("x", long)}, api.ErrMesh)
	refused(t, api.Graph{Nodes: []api.Node{{Op: api.Fill, Note: strings.Repeat(" ", long)}}}, api.ErrNote)
	// A list that many Joins take over and over is not written, so it can't fill the memory.
	g := api.Graph{Nodes: []api.Node{{Op: api.Param, Shape: l(0)}}}
	list := make([]int, long)
	for range 47 {
		g.Nodes = append(g.Nodes, api.Node{Op: api.Join, In: list, A: l(0)})
	}
	refused(t, g, api.ErrLong)
}
