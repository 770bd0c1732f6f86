// Tests of P13.1's Words and Number, and of what Graph reads by P13.1 and P13.2: ordinary inputs and edges.
package parse_test

import (
	"fmt"
	"math"
	"math/big"
	"slices"
	"strconv"
	"strings"
	"testing"

	"parquetry/api"
	"parquetry/parse"
	"parquetry/wire"
)

func TestWords(t *testing.T) {
	for _, c := range []struct {
		s    string
		want []string
	}{
		{"", []string{""}},
		{" ", []string{"", ""}},
		{"  ", []string{"", "", ""}},
		{"a", []string{"a"}},
		{"a b", []string{"a", "b"}},
		{"a  b", []string{"a", "", "b"}},
		{"a   b", []string{"a", "", "", "b"}},
		{" a", []string{"", "a"}},
		{"a ", []string{"a", ""}},
		{"  a  ", []string{"", "", "a", "", ""}},
		{" a b ", []string{"", "a", "b", ""}},
		{"neg ( 12 ) ( )", []string{"neg", "(", "12", ")", "(", ")"}},
		{"mesh xé 2 3", []string{"mesh", "xé", "2", "3"}},
		{"世 😀 é", []string{"世", "😀", "é"}},
		// Byte 32 alone parts: nothing else that looks like a blank does.
		{"a\tb\nc\rd\x00e\x0bf\x0cg", []string{"a\tb\nc\rd\x00e\x0bf\x0cg"}},
		{"a\u00a0b\u2003c\u3000d\u0085e", []string{"a\u00a0b\u2003c\u3000d\u0085e"}},
		// Bytes that begin no rune stay as they are.
		{"\xff \xff\xfe", []string{"\xff", "\xff\xfe"}},
		{"\xe4\xb8 \x96", []string{"\xe4\xb8", "\x96"}},
		{"\xc0\xa0 \ufffd", []string{"\xc0\xa0", "\ufffd"}},
	} {
		if got := parse.Words(c.s); !slices.Equal(got, c.want) {
			t.Errorf("Words(%q): %q, not %q", c.s, got, c.want)
		}
	}
}

// someTexts are all texts of up to so many of those signs.
func someTexts(many int, signs ...string) []string {
	all := []string{""}
	for from := 0; many > 0; many-- {
		longer := all[from:]
		from = len(all)
		for _, s := range longer {
			for _, sign := range signs {
				all = append(all, s+sign)
			}
		}
	}
	return all
}

// TestWordsOfAll: put together with a blank between each two, the words are the text again, and none has a blank.
func TestWordsOfAll(t *testing.T) {
	for _, s := range someTexts(6, " ", "a", "é", "\n", "\xff") {
		got := parse.Words(s)
		if strings.Join(got, " ") != s || len(got) != 1+strings.Count(s, " ") {
			t.Errorf("Words(%q): %q", s, got)
		}
	}
}

func TestNumber(t *testing.T) {
	for _, c := range []struct {
		s    string
		want int64
	}{
		{"0", 0},
		{"1", 1},
		{"-1", -1},
		{"9", 9},
		{"10", 10},
		{"-10", -10},
		{"120", 120},
		{"-505", -505},
		{"2147483647", math.MaxInt32},
		{"2147483648", math.MaxInt32 + 1},
		{"-2147483648", math.MinInt32},
		{"-2147483649", math.MinInt32 - 1},
		{"4294967296", 1 << 32},
		{"9007199254740993", 1<<53 + 1},
		{"9223372036854775806", great - 1},
		{"9223372036854775807", great},
		{"-9223372036854775807", least + 1},
		{"-9223372036854775808", least},
	} {
		if n, ok := parse.Number(c.s); n != c.want || !ok {
			t.Errorf("Number(%q): %d, %t, not %d", c.s, n, ok, c.want)
		}
	}
}

// TestNoNumber: wire.Number writes none so.
func TestNoNumber(t *testing.T) {
	for _, s := range []string{
		"", "-", "+", " ", "--", "-+", "00", "01", "007", "-0", "-00", "-01", "+0", "+1", "--1", "-+1", "1-", "1-1", "0-",
		" 1", "1 ", "1 2", "- 1", "\t1", "1\n", "\n", "1\x00", "\x001", "1_0", "1,0", "1.0", "1.", ".1", "1e3", "0x1", "0b1", "0o7", "1a", "a", "x",
		"١", "१", "１", "²", "1é", "−1", "\xff", "1\xff", "\xb1", "\u0131",
		"9223372036854775808", "-9223372036854775809", "9223372036854775810", "10000000000000000000", "-10000000000000000000",
		"18446744073709551615", "18446744073709551616", "18446744073709551617", "-18446744073709551615", "-18446744073709551617",
		"99999999999999999999", "-99999999999999999999", "09223372036854775807", "-09223372036854775808",
		"1" + strings.Repeat("0", 64), "0" + strings.Repeat("0", 64), strings.Repeat("9", 1000), "-" + strings.Repeat("0", 1000) + "1",
	} {
		noNumber(t, s)
	}
}

func noNumber(t *testing.T, s string) {
	t.Helper()
	if n, ok := parse.Number(s); n != 0 || ok {
		t.Errorf("Number(%s): %d, %t", short(s), n, ok)
	}
}

// TestNumberOfAll: all texts of few signs, each held against what is written of what the library reads.
func TestNumberOfAll(t *testing.T) {
	for _, s := range someTexts(5, "-", "+", "0", "1", "9", " ", "_", "/", ":", "\xb0") {
		n, err := strconv.ParseInt(s, 10, 64)
		if err == nil && strconv.FormatInt(n, 10) == s {
			isNumber(t, n)
		} else {
			noNumber(t, s)
		}
	}
	for b := range 256 {
		if s := string([]byte{byte(b)}); b < '0' || b > '9' {
			noNumber(t, s)
			noNumber(t, "1"+s)
			noNumber(t, s+s)
		}
	}
}

func isNumber(t *testing.T, n int64) {
	t.Helper()
	if got, ok := parse.Number(fmt.Sprint(n)); got != n || !ok {
		t.Errorf("Number(%d): %d, %t", n, got, ok)
	}
}

// TestNumbersThatGoRound: of all that are alike but for what goes round, the one alone that an int64 is.
func TestNumbersThatGoRound(t *testing.T) {
	round := new(big.Int).Lsh(big.NewInt(1), 64)
	ask := func(n int64) {
		isNumber(t, n)
		isNumber(t, -n)
		isNumber(t, great-n)
		isNumber(t, least+n)
		for _, k := range []int64{-20, -10, -2, -1, 1, 2, 10, 20} {
			far := new(big.Int).Mul(round, big.NewInt(k))
			noNumber(t, far.Add(far, big.NewInt(n)).String())
		}
		if n > 0 {
			over := new(big.Int).Add(big.NewInt(great), big.NewInt(n))
			noNumber(t, over.String())
			noNumber(t, over.Neg(over).Sub(over, big.NewInt(1)).String())
		}
	}
	for n := range int64(3000) {
		ask(n)
	}
	for bit := range 63 {
		for k := int64(0); k < 3; k++ {
			ask(1<<bit - k)
		}
	}
	power := int64(1)
	for range 19 {
		for k := int64(-1); k <= 1; k++ {
			ask(power + k)
		}
		power *= 10
	}
}

// TestEachOp: a line of each op, alone behind what it takes.
func TestEachOp(t *testing.T) {
	all := knownNodes()
	for i, k := range all {
		g, text := api.Graph{Sizes: l(2, 1, 4), Names: "xé世"}, []string{meshLine}
		for _, ahead := range all[:i+1] {
			g.Nodes, text = append(g.Nodes, ahead.node), append(text, ahead.line)
		}
		isRead(t, lines(append(text, "outs")...), g)
		g.Outs = l(i)
		isRead(t, lines(append(text, fmt.Sprint("outs ", i))...), g)
		if k.node.Op == 0 || !strings.HasPrefix(k.line, opWords[k.node.Op-1]+" ") {
			t.Errorf("%q is of another op than %d", k.line, k.node.Op)
		}
	}
	isRead(t, sampleText(), sample())
}

// TestOfNothing: a graph of nothing, a mesh alone, nodes of nothing.
func TestOfNothing(t *testing.T) {
	isRead(t, "mesh -\nouts\n", api.Graph{})
	isRead(t, "mesh d 1\nouts\n", api.Graph{Sizes: l(1), Names: "d"})
	isRead(t, "mesh 世 8\nouts\n", api.Graph{Sizes: l(8), Names: "世"})
	isRead(t, "mesh yx 2 4\nouts\n", api.Graph{Sizes: l(2, 4), Names: "yx"})
	isRead(t, "mesh zé! 2 2 2\nouts\n", api.Graph{Sizes: l(2, 2, 2), Names: "zé!"})
	isRead(t, "mesh 😀\u00a0\u3000 1 8 1\nouts\n", api.Graph{Sizes: l(1, 8, 1), Names: "😀\u00a0\u3000"})
	// Names that look like numbers are names.
	isRead(t, "mesh 10 3 2\nouts\n", api.Graph{Sizes: l(3, 2), Names: "10"})
	isRead(t, "mesh 0 3\nouts\n", api.Graph{Sizes: l(3), Names: "0"})
	isRead(t, "mesh -\nparam ( ) ( ) ( ) 0 0 -\nouts\n", api.Graph{Nodes: []api.Node{{Op: api.Param}}})
	isRead(t, "mesh -\nfill ( ) ( 0 ) ( ) 0 0 -\nouts 0 0\n", api.Graph{Nodes: []api.Node{{Op: api.Fill, Shape: l(0)}}, Outs: l(0, 0)})
	isRead(t, "mesh -\nparam ( ) ( ) ( ) 0 0 -\npad ( 0 ) ( ) ( ) -3 0 -\nouts 1\n", api.Graph{Nodes: []api.Node{{Op: api.Param}, {Op: api.Pad, In: l(0), N: -3}}, Outs: l(1)})
}

// TestNotes: a note is kept as it stands there, and one that is none is of no signs.
func TestNotes(t *testing.T) {
	for _, c := range []struct {
		names, note string
		rank        int
	}{
		{"x", "-", 0}, {"x", "-", 1}, {"x", "-", 4}, {"x", ".", 1}, {"x", "x", 1}, {"x", ".x", 2}, {"xy", "yx", 2}, {"xy", "..y.", 4},
		{"é世😀", "😀é.世", 4}, {"é世😀", "世", 1}, {"10", "01", 2}, {"10", "1", 1}, {"+", "+", 1}, {"_", "._.", 3},
	} {
		many := strings.Count(c.names, "") - 1
		sizes, shape := slices.Repeat(l(1), many), slices.Repeat(l(3), c.rank)
		s := fmt.Sprintf("mesh %s%s\nparam ( )%s ( ) 0 0 %s\nouts\n", c.names, strings.Repeat(" 1", many), " ("+strings.Repeat(" 3", c.rank)+" )", c.note)
		isRead(t, s, api.Graph{Sizes: sizes, Names: c.names, Nodes: []api.Node{{Op: api.Param, Shape: shape, Note: strings.TrimPrefix(c.note, "-")}}})
	}
}

// TestNumbersOfNodes: N at both ends of int64 and about 0, each How, nodes, lengths and outs of two digits.
func TestNumbersOfNodes(t *testing.T) {
	for _, n := range []int64{0, 1, -1, 9, 10, -10, great, great - 1, least, least + 1, math.MaxInt32 + 1, math.MinInt32 - 1} {
		s := fmt.Sprintf("mesh -\nfill ( ) ( ) ( ) %d 0 -\npad ( 0 ) ( ) ( ) %d 0 -\nouts 1\n", n, n)
		isRead(t, s, api.Graph{Nodes: []api.Node{{Op: api.Fill, N: n}, {Op: api.Pad, In: l(0), N: n}}, Outs: l(1)})
	}
	for how := api.Sum; how <= api.Most; how++ {
		s := fmt.Sprintf("mesh -\nparam ( ) ( ) ( ) 0 0 -\nfold ( 0 ) ( ) ( ) 0 %d -\nouts\n", how)
		isRead(t, s, api.Graph{Nodes: []api.Node{{Op: api.Param}, {Op: api.Fold, In: l(0), How: how}}})
	}
	for length := range 33 {
		isRead(t, fmt.Sprintf("mesh -\nparam ( ) ( 1 %d ) ( ) 0 0 -\nouts\n", length), api.Graph{Nodes: []api.Node{{Op: api.Param, Shape: l(1, length)}}})
	}
}

// TestMany: MaxNodes nodes and outs are read, one more of either is refused as graph.Right does.
func TestMany(t *testing.T) {
	g := api.Graph{Nodes: []api.Node{{Op: api.Param}}, Outs: l(47)}
	nodes, outs := "param ( ) ( ) ( ) 0 0 -\n", "outs 47"
	for i := 1; i < 48; i++ {
		g.Nodes, g.Outs = append(g.Nodes, api.Node{Op: api.Sub, In: l(i-1, i/2)}), append(g.Outs, 47-i)
		nodes, outs = nodes+fmt.Sprintf("sub ( %d %d ) ( ) ( ) 0 0 -\n", i-1, i/2), outs+fmt.Sprint(" ", 47-i)
	}
	isRead(t, "mesh -\n"+nodes+outs+"\n", g)
	refused(t, "mesh -\n"+nodes+outs+" 0\n", api.ErrLong)
	refused(t, "mesh -\n"+nodes+"neg ( 0 ) ( ) ( ) 0 0 -\n"+outs+"\n", api.ErrLong)
}

// TestAtMaxText: a text of just MaxText bytes is read; one of one more byte is not, be it of fewer runes or not.
func TestAtMaxText(t *testing.T) {
	for _, mesh := range []string{"mesh -", "mesh x 1", "mesh 世😀é 1 1 1"} {
		for _, bytes := range l(1<<16-2, 1<<16-1, 1<<16, 1<<16+1, 1<<16+2, 1<<17) {
			s := longText(mesh, bytes)
			if len(s) != bytes {
				t.Fatalf("%s: a text of %d bytes, not %d", mesh, len(s), bytes)
			}
			want := api.OK
			if bytes > 1<<16 {
				want = api.ErrLong
			}
			if got := asModel(t, s); got != want {
				t.Errorf("%s: a text of %d bytes: %d", mesh, bytes, int(got))
			}
		}
	}
}

// TestMadeTexts: texts of graphs as they come, held against the model, and written as they were.
func TestMadeTexts(t *testing.T) {
	d := &dice{1}
	texts := map[string]bool{}
	for i := range 2000 {
		s := d.text(i % 49)
		texts[s] = true
		if why := asModel(t, s); why != api.OK {
			t.Errorf("%s: refused by the model: %d", short(s), int(why))
		}
		g, _ := parse.Graph(s)
		if again, why := wire.Text(g); again != s || why != api.OK {
			t.Errorf("Graph(%s): of a graph whose text is %s, %d", short(s), short(again), int(why))
		}
		if t.Failed() {
			return
		}
	}
	if len(texts) < 1500 {
		t.Errorf("%d texts alone", len(texts))
	}
}

// TestWrittenAndRead: a graph's text is read as the graph, with its notes as names.Text writes them (P13.2).
func TestWrittenAndRead(t *testing.T) {
	d := &dice{2}
	blanks := func() string { return strings.Repeat(" ", d.below(4)) }
	graphs := []api.Graph{{}, sample()}
	for i := range 500 {
		g, why := modelGraph(d.text(i % 49))
		if why != api.OK {
			t.Fatalf("a made text that is refused: %d", int(why))
		}
		graphs = append(graphs, g)
	}
	for _, want := range graphs {
		g := want
		g.Nodes = slices.Clone(g.Nodes)
		for i, n := range g.Nodes {
			g.Nodes[i].Note = blanks()
			for _, r := range n.Note {
				g.Nodes[i].Note += string(r) + blanks()
			}
		}
		s, why := wire.Text(g)
		if why != api.OK {
			t.Fatalf("a text that is not written: %d", int(why))
		}
		isRead(t, s, want)
	}
}
