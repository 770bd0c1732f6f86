// Tests of the rules R1, R2 and R4 for package parse. (R3 is asked wherever a refusal is; R5 is of lists that are handed in, and none is.)
package parse_test

import (
	"slices"
	"strings"
	"testing"
	"unsafe"

	"parquetry/api"
	"parquetry/graph"
	"parquetry/parse"
)

// listsOf are all lists of numbers that g has, with their spare room.
func listsOf(g api.Graph) [][]int {
	all := [][]int{g.Sizes, g.Outs}
	for _, n := range g.Nodes {
		all = append(all, n.In, n.Shape, n.A)
	}
	for i, list := range all {
		all[i] = list[:cap(list)]
	}
	return all
}

// TestListsOfTheirOwn: no two lists of an answer share memory, their spare room neither, and no two answers do (R2).
func TestListsOfTheirOwn(t *testing.T) {
	s := sampleText()
	first, _ := parse.Graph(s)
	second, _ := parse.Graph(s)
	all := append(listsOf(first), listsOf(second)...)
	for i, list := range all {
		for k := range list {
			list[k] = -i
		}
	}
	for i, list := range all {
		if slices.ContainsFunc(list, func(n int) bool { return n != -i }) {
			t.Errorf("list %d shares memory with another one", i)
		}
	}
	for i := range first.Nodes[:cap(first.Nodes)] {
		first.Nodes[:cap(first.Nodes)][i] = api.Node{Op: -77}
	}
	for i, n := range second.Nodes {
		if n.Op != knownNodes()[i].node.Op {
			t.Errorf("node %d shares memory with one of another answer", i)
		}
	}
	isRead(t, s, sample())
}

// TestWordsOfTheirOwn: words are new memory, none of the text's, and each answer's list is its own (R2).
func TestWordsOfTheirOwn(t *testing.T) {
	s := strings.Repeat("neg ( 12 )  世 ", 50)
	first, second := parse.Words(s), parse.Words(s)
	begin := uintptr(unsafe.Pointer(unsafe.StringData(s)))
	for _, word := range first {
		if at := uintptr(unsafe.Pointer(unsafe.StringData(word))); word != "" && at >= begin && at < begin+uintptr(len(s)) {
			t.Fatalf("the word %q is a piece of the text", word)
		}
	}
	all := first[:cap(first)]
	for i := range all {
		all[i] = "mine"
	}
	if strings.Join(second, " ") != s || strings.Join(parse.Words(s), " ") != s {
		t.Error("two answers share memory")
	}
}

// TestAskedAgain: whatever was asked in between, a text is read as it was, or refused as it was (R4).
func TestAskedAgain(t *testing.T) {
	d := &dice{4}
	var texts []string
	for i := range 60 {
		s := d.text(i)
		texts = append(texts, s, d.damaged(s))
	}
	for _, f := range faults() {
		texts = append(texts, strings.Replace(sampleText(), f.from, f.to, 1))
	}
	graphs, refusals := make([]api.Graph, len(texts)), make([]api.Errno, len(texts))
	for i, s := range texts {
		graphs[i], refusals[i] = parse.Graph(s)
	}
	for i, s := range slices.Backward(texts) {
		if g, why := parse.Graph(s); why != refusals[i] || !graph.Same(g, graphs[i]) {
			t.Errorf("Graph(%s): another answer than ahead: %d, not %d", short(s), int(why), int(refusals[i]))
		}
	}
}

// TestLongTexts: calls end, of long texts too (R1).
func TestLongTexts(t *testing.T) {
	const long = 1 << 18
	for _, sign := range []string{" ", "\n", "0", "9", "-", "(", "x", "\xff", "\x00", "世", "0 ", "( ", ") ", "- ", "mesh -\n", "neg ( 0 ) ( ) ( ) 0 0 -\n", "outs\n"} {
		s := strings.Repeat(sign, long)
		refused(t, s, api.ErrLong)
		noNumber(t, s)
		noNumber(t, "-"+s)
		noNumber(t, "1"+s)
		if got := parse.Words(s[:long]); len(got) != 1+strings.Count(s[:long], " ") {
			t.Errorf("Words(%s): %d words", short(s), len(got))
		}
		for _, ahead := range []string{"", "mesh -\n", "mesh x", "mesh ", "mesh -\nneg", "mesh -\nneg ( ", "mesh -\nparam ( ) ( ) ( ) 0 0 ", "mesh -\nouts", "mesh -\nouts "} {
			asModel(t, (ahead + s)[:api.MaxText])
			asModel(t, (ahead + s)[:api.MaxText-1]+"\n")
			asModel(t, (ahead + s)[:api.MaxText-6]+"\nouts\n")
			asModel(t, (ahead + s)[:api.MaxText-10]+" -\nouts 0\n")
		}
	}
}
