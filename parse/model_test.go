// What the tests of parse hold its answers against: texts written by hand, and a reading by patterns that asks parse nothing.
package parse_test

import (
	"fmt"
	"math"
	"regexp"
	"strconv"
	"strings"
	"testing"

	"parquetry/api"
	"parquetry/graph"
	"parquetry/parse"
)

const (
	great = math.MaxInt64
	least = math.MinInt64
)

func l(n ...int) []int { return n }

// lines are texts, each ended by byte 10.
func lines(l ...string) string { return strings.Join(l, "\x0a") + "\x0a" }

// known is a line, and the node that it is of.
type known struct {
	line string
	node api.Node
}

// knownNodes have each op, on a mesh named xé世: each takes what is ahead of it in this list.
func knownNodes() []known {
	return []known{
		{"param ( ) ( 2 4 ) ( ) 0 0 x.", api.Node{Op: api.Param, Shape: l(2, 4), Note: "x."}},
		{"param ( ) ( ) ( ) 0 0 -", api.Node{Op: api.Param}},
		{"fill ( ) ( 4 ) ( ) -9223372036854775808 0 世", api.Node{Op: api.Fill, Shape: l(4), N: least, Note: "世"}},
		{"iota ( ) ( 2 4 ) ( 1 ) 0 0 -", api.Node{Op: api.Iota, Shape: l(2, 4), A: l(1)}},
		{"neg ( 0 ) ( ) ( ) 0 0 ..", api.Node{Op: api.Neg, In: l(0), Note: ".."}},
		{"not ( 3 ) ( ) ( ) 0 0 -", api.Node{Op: api.Not, In: l(3)}},
		{"add ( 4 3 ) ( ) ( ) 0 0 éx", api.Node{Op: api.Add, In: l(4, 3), Note: "éx"}},
		{"sub ( 0 0 ) ( ) ( ) 0 0 -", api.Node{Op: api.Sub, In: l(0, 0)}},
		{"mul ( 5 6 ) ( ) ( ) 0 0 -", api.Node{Op: api.Mul, In: l(5, 6)}},
		{"min ( 7 8 ) ( ) ( ) 0 0 -", api.Node{Op: api.Min, In: l(7, 8)}},
		{"max ( 9 0 ) ( ) ( ) 0 0 .x", api.Node{Op: api.Max, In: l(9, 0), Note: ".x"}},
		{"less ( 10 3 ) ( ) ( ) 0 0 -", api.Node{Op: api.Less, In: l(10, 3)}},
		{"select ( 11 10 9 ) ( ) ( ) 0 0 -", api.Node{Op: api.Select, In: l(11, 10, 9)}},
		{"turn ( 12 ) ( ) ( 1 0 ) 0 0 x世", api.Node{Op: api.Turn, In: l(12), A: l(1, 0), Note: "x世"}},
		{"spread ( 2 ) ( 3 4 2 ) ( 1 ) 0 0 .é.", api.Node{Op: api.Spread, In: l(2), Shape: l(3, 4, 2), A: l(1), Note: ".é."}},
		{"slice ( 14 ) ( ) ( 0 1 0 1 3 2 ) 0 0 -", api.Node{Op: api.Slice, In: l(14), A: l(0, 1, 0, 1, 3, 2)}},
		{"pad ( 2 ) ( ) ( 10 18 ) 9223372036854775807 0 -", api.Node{Op: api.Pad, In: l(2), A: l(10, 18), N: great}},
		{"join ( 13 13 13 ) ( ) ( 0 ) 0 0 -", api.Node{Op: api.Join, In: l(13, 13, 13), A: l(0)}},
		{"fold ( 17 ) ( ) ( 0 1 ) 0 4 -", api.Node{Op: api.Fold, In: l(17), A: l(0, 1), How: api.Most}},
		{"dot ( 0 13 ) ( ) ( 0 ) 0 0 世x", api.Node{Op: api.Dot, In: l(0, 13), A: l(0), Note: "世x"}},
		{"window ( 16 ) ( ) ( 0 3 2 ) 0 1 .", api.Node{Op: api.Window, In: l(16), A: l(0, 3, 2), How: api.Sum, Note: "."}},
	}
}

const (
	meshLine = "mesh xé世 2 1 4"
	outsLine = "outs 20 0 20 18"
)

// sampleLines are those of a text with a node of each op.
func sampleLines() []string {
	all := []string{meshLine}
	for _, k := range knownNodes() {
		all = append(all, k.line)
	}
	return append(all, outsLine)
}

// sampleText is a text with a node of each op.
func sampleText() string { return lines(sampleLines()...) }

// sample is the graph of sampleText.
func sample() api.Graph {
	g := api.Graph{Sizes: l(2, 1, 4), Names: "xé世", Outs: l(20, 0, 20, 18)}
	for _, k := range knownNodes() {
		g.Nodes = append(g.Nodes, k.node)
	}
	return g
}

// longText is one of that many bytes that says mesh: a join of no numbers, over and over, and a fill with as many digits as are left.
func longText(mesh string, bytes int) string {
	write := func(pairs int, n string) string {
		return lines(mesh, "param ( ) ( 0 ) ( ) 0 0 -", "join ( 0 0"+strings.Repeat(" 0", pairs)+" ) ( ) ( 0 ) 0 0 -", "fill ( ) ( ) ( ) "+n+" 0 -", "outs 1")
	}
	left := bytes - len(write(0, "7"))
	return write(left/2, []string{"7", "77"}[left%2])
}

// What a line may be, by the words of page 12. A byte that begins no rune is none of a blank and a line's end either.
var (
	numberForm = `(?:0|-?[1-9][0-9]*)`
	listForm   = `\(((?: ` + numberForm + `)*) \)`
	meshForm   = regexp.MustCompile(`\Amesh (?:-|([^ \n-]|[^ \n]{2,})((?: ` + numberForm + `)*))\z`)
	nodeForm   = regexp.MustCompile(`\A(` + strings.Join(opWords[:], "|") + `) ` + listForm + ` ` + listForm + ` ` + listForm + ` (` + numberForm + `) (` + numberForm + `) ([^ \n]+)\z`)
	outsForm   = regexp.MustCompile(`\Aouts((?: ` + numberForm + `)*)\z`)
)

// opWords are those of the ops, in their order.
var opWords = [...]string{"param", "fill", "iota", "neg", "not", "add", "sub", "mul", "min", "max", "less", "select", "turn", "spread", "slice", "pad", "join", "fold", "dot", "window"}

// modelNumbers reads numbers that a blank stands ahead of each; false, if one doesn't go into so many bits.
func modelNumbers(s string, bits int) ([]int, bool) {
	var all []int
	for _, word := range strings.Fields(s) {
		n, err := strconv.ParseInt(word, 10, bits)
		if err != nil {
			return nil, false
		}
		all = append(all, int(n))
	}
	return all, true
}

// modelNode reads the line of a node.
func modelNode(line string) (n api.Node, ok bool) {
	m := nodeForm.FindStringSubmatch(line)
	if m == nil {
		return n, false
	}
	for i, word := range opWords {
		if word == m[1] {
			n.Op = 1 + i
		}
	}
	var how []int
	var fits [5]bool
	n.In, fits[0] = modelNumbers(m[2], strconv.IntSize)
	n.Shape, fits[1] = modelNumbers(m[3], strconv.IntSize)
	n.A, fits[2] = modelNumbers(m[4], strconv.IntSize)
	how, fits[3] = modelNumbers(m[6], strconv.IntSize)
	big, err := strconv.ParseInt(m[5], 10, 64)
	fits[4] = err == nil
	if fits != [5]bool{true, true, true, true, true} {
		return n, false
	}
	n.N, n.How = big, how[0]
	if m[7] != "-" {
		n.Note = m[7]
	}
	return n, true
}

// modelForm reads a text by its form alone.
func modelForm(s string) (g api.Graph, ok bool) {
	all := strings.Split(s, "\n")
	if len(all) < 3 || all[len(all)-1] != "" {
		return g, false
	}
	first, nodes, last := meshForm.FindStringSubmatch(all[0]), all[1:len(all)-2], outsForm.FindStringSubmatch(all[len(all)-2])
	if first == nil || last == nil {
		return g, false
	}
	var ok1, ok2 bool
	g.Names = first[1]
	g.Sizes, ok1 = modelNumbers(first[2], strconv.IntSize)
	g.Outs, ok2 = modelNumbers(last[1], strconv.IntSize)
	for _, line := range nodes {
		n, ok := modelNode(line)
		if !ok {
			return g, false
		}
		g.Nodes = append(g.Nodes, n)
	}
	return g, ok1 && ok2
}

// modelGraph is what Graph must answer.
func modelGraph(s string) (api.Graph, api.Errno) {
	if len(s) > 65536 {
		return api.Graph{}, api.ErrLong
	}
	g, ok := modelForm(s)
	if !ok {
		return api.Graph{}, api.ErrForm
	}
	if why := graph.Right(g); why != api.OK {
		return api.Graph{}, why
	}
	return g, api.OK
}

// asModel holds what Graph answers against the model, and tells the model's refusal.
func asModel(t *testing.T, s string) api.Errno {
	t.Helper()
	want, refusal := modelGraph(s)
	if refusal != api.OK {
		refused(t, s, refusal)
	} else {
		isRead(t, s, want)
	}
	return refusal
}

// isRead tells whether Graph reads s as g.
func isRead(t *testing.T, s string, g api.Graph) {
	t.Helper()
	if got, why := parse.Graph(s); why != api.OK || !graph.Same(got, g) {
		t.Errorf("Graph(%s): %s, %d, not %s", short(s), short(fmt.Sprintf("%+v", got)), int(why), short(fmt.Sprintf("%+v", g)))
	}
}

// refused tells whether Graph answers that refusal, and nothing of a graph.
func refused(t *testing.T, s string, want api.Errno) {
	t.Helper()
	got, why := parse.Graph(s)
	if why != want {
		t.Errorf("Graph(%s): %d, not %d", short(s), int(why), int(want))
	}
	if len(got.Sizes) != 0 || got.Names != "" || len(got.Nodes) != 0 || len(got.Outs) != 0 {
		t.Errorf("Graph(%s): %s beside a refusal", short(s), short(fmt.Sprintf("%+v", got)))
	}
}

// short tells of a text, at length only if it has little.
func short(s string) string {
	if len(s) < 1500 {
		return strconv.Quote(s)
	}
	return fmt.Sprintf("%q and so on, %d bytes", s[:100], len(s))
}

// dice are numbers one behind the other that look like none goes with the other; the same each time.
type dice struct{ state uint64 }

// below is the next one, 0 to n - 1.
func (d *dice) below(n int) int {
	d.state = d.state*6364136223846793005 + 1442695040888963407
	return int(d.state >> 33 % uint64(n))
}

// one is one of some.
func (d *dice) one(some ...string) string { return some[d.below(len(some))] }

// madeForms are lines of each op, all of which give the shape 0, 0 of nodes that do: '#' is a node ahead, '%' any number, '?' a note.
const madeForms = `param ( ) ( 0 0 ) ( ) 0 0 ?
fill ( ) ( 0 0 ) ( ) % 0 ?
iota ( ) ( 0 0 ) ( 1 ) 0 0 ?
neg ( # ) ( ) ( ) 0 0 ?
not ( # ) ( ) ( ) 0 0 ?
add ( # # ) ( ) ( ) 0 0 ?
sub ( # # ) ( ) ( ) 0 0 ?
mul ( # # ) ( ) ( ) 0 0 ?
min ( # # ) ( ) ( ) 0 0 ?
max ( # # ) ( ) ( ) 0 0 ?
less ( # # ) ( ) ( ) 0 0 ?
select ( # # # ) ( ) ( ) 0 0 ?
turn ( # ) ( ) ( 1 0 ) 0 0 ?
spread ( # ) ( 0 0 ) ( 0 1 ) 0 0 ?
slice ( # ) ( ) ( 0 0 0 0 ) 0 0 ?
pad ( # ) ( ) ( 0 0 0 0 ) % 0 ?
join ( # # # # # ) ( ) ( 1 ) 0 0 ?
fold ( # ) ( ) ( ) 0 3 ?
dot ( # # ) ( ) ( 0 ) 0 0 ?
window ( # ) ( ) ( 1 32 7 ) 0 2 ?`

// text is one of that many nodes, of a graph that may be.
func (d *dice) text(nodes int) string {
	k := d.below(4)
	all := []string{[]string{"mesh -", "mesh x 8", "mesh yé 2 3", "mesh 世5😀 1 2 4"}[k]}
	notes := append([]string{"-", "-", ".."}, [][]string{{}, {"x.", ".x"}, {"éy", "yé", ".y", "é."}, {"5世", "😀.", "世😀", ".5"}}[k]...)
	forms := strings.Split(madeForms, "\n")
	for i := range nodes {
		line := forms[d.below(3)]
		if i > 0 {
			line = d.one(forms...)
		}
		for strings.Contains(line, "#") {
			line = strings.Replace(line, "#", fmt.Sprint(d.below(i)), 1)
		}
		n := int64(d.below(1<<30))<<34 | int64(d.below(1<<30))<<4 | int64(d.below(16))
		line = strings.Replace(line, "%", fmt.Sprint(n>>d.below(64)), 1)
		all = append(all, strings.Replace(line, "?", d.one(notes...), 1))
	}
	outs := "outs"
	for range min(nodes, 1) * d.below(49) {
		outs += fmt.Sprint(" ", d.below(nodes))
	}
	return lines(append(all, outs)...)
}

// damaged is s with a change somewhere: of a sign, a word, a line.
func (d *dice) damaged(s string) string {
	by := d.one("", " ", " ", "\n")
	pieces := append(strings.Split(s, by), "")
	i, j := d.below(len(pieces)), d.below(len(pieces))
	switch d.below(5) {
	case 0:
		pieces[i] = ""
	case 1:
		pieces = append(pieces[:i:i], pieces[i+1:]...)
	case 2:
		pieces[i], pieces[j] = pieces[j], pieces[i]
	case 3:
		pieces[i] += by + pieces[j]
	case 4:
		pieces[i] = d.one("-", "(", ")", "0", "1", "01", "+1", "-0", "-1", "x", ".", "neg", "outs", "mesh", " ", "\n", "\xff", "99999999999999999999")
	}
	return strings.Join(pieces, by)
}

// changed is s with another number, another op or another note somewhere, so that it keeps its form.
func (d *dice) changed(s string) string {
	words := strings.Split(s, " ")
	i := d.below(len(words))
	for words[i] == "(" || words[i] == ")" {
		i = d.below(len(words))
	}
	_, err := strconv.Atoi(words[i])
	note, behind, ends := strings.Cut(words[i], "\n")
	switch {
	case err == nil:
		words[i] = d.one("0", "1", "2", "5", "-1", "33", strconv.Itoa(math.MaxInt))
	case ends && i == len(words)-1:
		words[i] = d.one("0", "48", "-1") + "\n"
	case ends:
		note = d.one("-", ".", "..", "x.", "5世", note)
		words[i] = d.one(note+"\n"+behind, note+"\n"+d.one(opWords[:]...))
	}
	return strings.Join(words, " ")
}
