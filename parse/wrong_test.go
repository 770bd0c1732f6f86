// Tests of what Graph refuses by P13.1: texts of no such form, graphs that may not be, which of two refusals is told.
package parse_test

import (
	"math"
	"slices"
	"strconv"
	"strings"
	"testing"

	"parquetry/api"
)

// behindParam is a text with that line as its second node.
func behindParam(line string) string {
	return "mesh x 2\nparam ( ) ( 4 6 ) ( ) 0 0 -\n" + line + "\nouts\n"
}

// onNoMesh is that text with a mesh that may not be, which is told of no text that lacks its form.
func onNoMesh(line string) string { return strings.Replace(behindParam(line), "x 2", "xx 9", 1) }

// TestNoLines: a text that isn't the lines that page 12 has.
func TestNoLines(t *testing.T) {
	for _, s := range []string{
		"", "\n", "\n\n", "\n\n\n", " ", "x", "mesh", "mesh -", "mesh -\n", "outs", "outs\n", "mesh -outs\n", "mesh - outs\n", "mesh -\nouts",
		"mesh -\nouts\n\n", "mesh -\nouts\n ", "mesh -\nouts\nx", "mesh -\nouts\nx\n", "mesh -\nouts\nouts\n",
		"mesh -\nouts\nmesh -\nouts\n", "mesh -\nouts\nparam ( ) ( ) ( ) 0 0 -\n",
		"\nmesh -\nouts\n", "mesh -\n\nouts\n", "mesh -\n \nouts\n", "outs\nmesh -\n", "outs\nouts\n", "mesh -\nmesh -\n",
		"mesh -\nmesh -\nouts\n", "param ( ) ( ) ( ) 0 0 -\nouts\n", "param ( ) ( ) ( ) 0 0 -\nmesh -\nouts\n",
		"mesh -\nparam ( ) ( ) ( ) 0 0 -\n",
		"mesh -\nouts\r\n", "mesh -\nouts\r", "\ufeffmesh -\nouts\n", "mesh -\x00\nouts", "mesh -\u2028outs\u2028", "mesh -\routs\r", "mesh -\x0bouts\x0b",
	} {
		refused(t, s, api.ErrForm)
	}
}

// TestNoMeshLine: a first line that is none, be the mesh one that may be or not.
func TestNoMeshLine(t *testing.T) {
	for _, line := range []string{
		"", "mesh", "mesh ", "mesh  ", "mesh  2", "mesh  x 2", " mesh x 2", "mesh x 2 ", "mesh x  2", "mesh x 2  4", "mesh  -",
		"mesh - ", " mesh -", "mesh - -", "mesh - 2", "mesh - 0", "mesh - x", "mesh - x 2",
		"Mesh x 2", "MESH x 2", "meshx 2", "mesh\tx 2", "mes x 2", "meshes x 2", "- mesh", "x 2", "outs x 2",
		"mesh x y", "mesh x x 2", "mesh x 2 x", "mesh x ( 2 )", "mesh x 2,4", "mesh x 02", "mesh x -0", "mesh x +2", "mesh x 2.0",
		"mesh x 2x", "mesh x 0x2", "mesh x ２", "mesh x 2\r", "mesh xy 2 04", "mesh xx 2 02", "mesh x 9 -",
		"mesh x 9223372036854775808", "mesh x -9223372036854775809", "mesh x 18446744073709551618",
	} {
		refused(t, line+"\nouts\n", api.ErrForm)
		refused(t, line+"\nneg ( 9 ) ( ) ( ) 0 0 -\nouts 7\n", api.ErrForm)
	}
}

// TestNoNodeLine: a line of a node that is none, behind one that may be.
func TestNoNodeLine(t *testing.T) {
	const right = "pad ( 0 ) ( ) ( 1 0 0 1 ) -5 0 x."
	if why := asModel(t, behindParam(right)); why != api.OK {
		t.Fatalf("%s: %d", right, int(why))
	}
	words := strings.Split(right, " ")
	otherWords := []string{
		"", "(", ")", "()", "((", "[", "]", "-", ".", "x", "neg", "outs", "mesh", "\t", "\xff",
		"0", "00", "-0", "+1", "1.0", "9223372036854775808",
	}
	for i := range words {
		// A word too few, and then each of these ahead of it and instead of it.
		all := [][]string{slices.Delete(slices.Clone(words), i, i+1)}
		for _, word := range append(otherWords, words[i]) {
			other := slices.Clone(words)
			other[i] = word
			all = append(all, other, slices.Insert(slices.Clone(words), i, word))
		}
		for _, other := range all {
			asModel(t, behindParam(strings.Join(other, " ")))
			asModel(t, onNoMesh(strings.Join(other, " ")))
		}
	}
	for _, line := range []string{
		"", " ", "neg", "neg ", "neg ( 0 )", "neg ( 0 ) ( )", "neg ( 0 ) ( ) ( )", "neg ( 0 ) ( ) ( ) 0", "neg ( 0 ) ( ) ( ) 0 0",
		"neg ( 0 ) ( ) ( ) 0 0 ", "neg ( 0 ) ( ) ( ) 0 0  -", "neg ( 0 ) ( ) ( ) 0 0 - ", "neg ( 0 ) ( ) ( ) 0 0 - -",
		"neg ( 0 ) ( ) ( ) 0 0 x .", "neg ( 0 ) ( ) ( ) 0 0 - outs", "neg ( 0 ) ( ) ( ) 0 0 0 -", " neg ( 0 ) ( ) ( ) 0 0 -",
		"neg  ( 0 ) ( ) ( ) 0 0 -",
		"nope ( 0 ) ( ) ( ) 0 0 -", "Neg ( 0 ) ( ) ( ) 0 0 -", "NEG ( 0 ) ( ) ( ) 0 0 -", "ne ( 0 ) ( ) ( ) 0 0 -",
		"negs ( 0 ) ( ) ( ) 0 0 -", "neg( 0 ) ( ) ( ) 0 0 -", "4 ( 0 ) ( ) ( ) 0 0 -", "- ( 0 ) ( ) ( ) 0 0 -", "( 0 ) ( ) ( ) 0 0 -",
		"mesh ( 0 ) ( ) ( ) 0 0 -", "outs ( 0 ) ( ) ( ) 0 0 -", "outs", "outs 0", "mesh x 2", "mesh -",
		"neg (0) ( ) ( ) 0 0 -", "neg ( 0) ( ) ( ) 0 0 -", "neg (0 ) ( ) ( ) 0 0 -", "neg ( 0 ) () ( ) 0 0 -",
		"neg ( 0 ) (  ) ( ) 0 0 -", "neg ( 0 ) ( ) ( 0 0 -", "neg ( 0 ) ( ) ) 0 0 -", "neg ( 0 ( ) ( ) 0 0 -", "neg 0 ) ( ) ( ) 0 0 -",
		"neg ( ( 0 ) ) ( ) ( ) 0 0 -", "neg [ 0 ] [ ] [ ] 0 0 -", "neg ) 0 ( ( ) ( ) 0 0 -", "neg ( 0 ) ( ) 0 0 -", "neg ( 0 ) 0 0 -",
		"neg 0 0 -", "neg ( 0 ) ( ) ( ) ( ) 0 0 -", "neg ( 0 ) ( ) ( ) ( 0 ) 0 -", "neg ( 0 ) - ( ) 0 0 -", "neg 0 ( ) ( ) 0 0 -",
		"neg ( 00 ) ( ) ( ) 0 0 -", "neg ( -0 ) ( ) ( ) 0 0 -", "neg ( +0 ) ( ) ( ) 0 0 -", "neg ( x ) ( ) ( ) 0 0 -",
		"neg ( - ) ( ) ( ) 0 0 -", "neg ( 0 ) ( ) ( ) 00 0 -", "neg ( 0 ) ( ) ( ) -0 0 -", "neg ( 0 ) ( ) ( ) 0 00 -",
		"neg ( 0 ) ( ) ( ) 0 -0 -", "neg ( 0 ) ( ) ( ) x 0 -", "neg ( 0 ) ( ) ( ) 0 x -", "neg ( 0 ) ( ) ( ) - 0 -",
		"neg ( 0 ) ( ) ( ) 0 - -", "neg ( 0 ) ( ) ( ) . . .", "neg ( 0, ) ( ) ( ) 0 0 -", "neg ( 0 , ) ( ) ( ) 0 0 -",
		"neg ( 0 ) ( ) ( ) 0 sum -",
		"fill ( ) ( 2 ) ( ) 9223372036854775808 0 -", "fill ( ) ( 2 ) ( ) -9223372036854775809 0 -",
		"fill ( ) ( 2 ) ( ) 18446744073709551616 0 -", "fill ( ) ( 02 ) ( ) 0 0 -", "fill ( ) ( 2 ) ( ) 1e3 0 -",
		"fill\t( ) ( 2 ) ( ) 0 0 -", "fill ( ) ( 2 ) ( ) 0\u00a00 -", "iota ( ) ( 2 ) ( 18446744073709551616 ) 0 0 -",
		"neg ( 0 ) ( ) ( ) 0 0 -\n", "\nneg ( 0 ) ( ) ( ) 0 0 -", "neg ( 0 ) ( ) ( )\n0 0 -", "neg\n( 0 ) ( ) ( ) 0 0 -",
		"neg ( 9 ) ( ) ( ) 0 0 -\nnope", "neg ( 9 ) ( ) ( ) 0 0 -\n",
	} {
		refused(t, behindParam(line), api.ErrForm)
		refused(t, onNoMesh(line), api.ErrForm)
	}
}

// TestNoOutsLine: a last line that is none.
func TestNoOutsLine(t *testing.T) {
	for _, line := range []string{
		"", "out", "out 0", "Outs 0", "OUTS", " outs", "outs ", "outs  ", "outs  0", "outs 0 ", "outs 0  0", "outs0", "outs\t0",
		"outs -", "outs - 0", "outs x", "outs ( 0 )", "outs ( )", "outs 00", "outs 0 00", "outs 01", "outs -0", "outs +0", "outs 0,0",
		"outs 0\r", "outs 9 x", "outs 9 ",
		"outs 9223372036854775808", "outs -9223372036854775809", "outs 18446744073709551616", "0", "mesh -", "neg ( 0 ) ( ) ( ) 0 0 -",
	} {
		refused(t, "mesh x 2\nparam ( ) ( 4 6 ) ( ) 0 0 -\n"+line+"\n", api.ErrForm)
	}
}

// TestEndsOfInt: numbers but N go into an int, whatever becomes of them there; one more at either end is of no form.
func TestEndsOfInt(t *testing.T) {
	const most = math.MaxInt
	ends := map[string]bool{
		strconv.Itoa(most): true, strconv.FormatUint(most+1, 10): false, "-" + strconv.FormatUint(most+1, 10): true, "-" + strconv.FormatUint(most+2, 10): false,
	}
	for n, fits := range ends {
		for text, why := range map[string]api.Errno{
			"mesh x " + n + "\nouts\n":                        api.ErrMesh,
			"mesh -\nouts " + n + "\n":                        api.ErrIndex,
			behindParam("neg ( " + n + " ) ( ) ( ) 0 0 -"):    api.ErrIndex,
			behindParam("param ( ) ( " + n + " ) ( ) 0 0 -"):  api.ErrShape,
			behindParam("fold ( 0 ) ( ) ( " + n + " ) 0 1 -"): api.ErrArg,
			behindParam("fold ( 0 ) ( ) ( ) 0 " + n + " -"):   api.ErrArg,
		} {
			if !fits {
				why = api.ErrForm
			}
			refused(t, text, why)
		}
	}
}

// small is a text with little of each kind, short enough to be changed at each place in every way.
const small = "mesh éx 2 4\nparam ( ) ( 4 10 ) ( ) 0 0 x.\nfill ( ) ( 4 10 ) ( ) -12 0 .é\nadd ( 0 1 ) ( ) ( ) 0 0 -\nfold ( 2 ) ( ) ( 0 1 ) 0 4 -\nouts 3 0\n"

// TestCutOff: no piece of a text from its beginning on is one.
func TestCutOff(t *testing.T) {
	for _, s := range []string{small, sampleText(), "mesh -\nouts\n"} {
		for n := range s {
			refused(t, s[:n], api.ErrForm)
			refused(t, s[n+1:], api.ErrForm)
			// With its line ended it may be one again.
			asModel(t, s[:n]+"\n")
			if t.Failed() {
				return
			}
		}
	}
}

// TestTurned: each byte of a text turned to each other one, left out, and one put ahead of it.
func TestTurned(t *testing.T) {
	var seen [26]int
	for i := range len(small) {
		seen[asModel(t, small[:i]+small[i+1:])]++
		for b := range 256 {
			sign := string([]byte{byte(b)})
			seen[asModel(t, small[:i]+sign+small[i+1:])]++
			seen[asModel(t, small[:i]+sign+small[i:])]++
			if t.Failed() {
				return
			}
		}
	}
	for _, why := range []api.Errno{api.OK, api.ErrForm, api.ErrMesh, api.ErrIndex, api.ErrShape, api.ErrArg, api.ErrNote} {
		if seen[why] == 0 {
			t.Errorf("%d is never told", int(why))
		}
	}
}

// TestLinesAndWords: each line, and each word, left out, said twice, and put in the place of each other one.
func TestLinesAndWords(t *testing.T) {
	for _, by := range []string{"\n", " "} {
		all := strings.Split(small, by)
		for i := range all {
			asModel(t, strings.Join(slices.Delete(slices.Clone(all), i, i+1), by))
			for j := range all {
				asModel(t, strings.Join(slices.Insert(slices.Clone(all), i, all[j]), by))
				other := slices.Clone(all)
				other[i] = all[j]
				asModel(t, strings.Join(other, by))
				other[j] = all[i]
				asModel(t, strings.Join(other, by))
			}
		}
	}
}

// TestDamagedTexts: made texts, changed somewhere once or more often, held against the model.
func TestDamagedTexts(t *testing.T) {
	d := &dice{3}
	var seen [26]int
	for i := range 6000 {
		s := d.text(1 + i%12)
		for range 1 + d.below(3) {
			if i%2 == 0 {
				s = d.damaged(s)
			} else {
				s = d.changed(s)
			}
		}
		seen[asModel(t, s)]++
		if t.Failed() {
			return
		}
	}
	for _, why := range []api.Errno{api.OK, api.ErrForm, api.ErrMesh, api.ErrIndex, api.ErrShape, api.ErrArg, api.ErrNote} {
		if seen[why] < 50 {
			t.Errorf("%d is told of %d texts alone", int(why), seen[why])
		}
	}
}

// fault is a change of sampleText that makes another text of the same form, and graph.Right's refusal of its graph.
type fault struct {
	from, to string
	why      api.Errno
}

// faults: each refusal of graph.Right, of all parts of a text.
func faults() []fault {
	return []fault{
		{meshLine, "mesh xé世 2 1 5", api.ErrMesh},
		{meshLine, "mesh xé世 2 0 4", api.ErrMesh},
		{meshLine, "mesh xé世 2 -1 4", api.ErrMesh},
		{meshLine, "mesh xé世 2 1 9", api.ErrMesh},
		{meshLine, "mesh xé世 2 4", api.ErrMesh},
		{meshLine, "mesh xé世", api.ErrMesh},
		{meshLine, "mesh xé世z 2 1 4 1", api.ErrMesh},
		{meshLine, "mesh xé 2 1 4", api.ErrMesh},
		{meshLine, "mesh xéx 2 1 4", api.ErrMesh},
		{meshLine, "mesh xé- 2 1 4", api.ErrMesh},
		{meshLine, "mesh -- 2 1", api.ErrMesh},
		{meshLine, "mesh ( 2", api.ErrMesh},
		{meshLine, "mesh . 2", api.ErrMesh},
		{meshLine, "mesh \xff 2", api.ErrMesh},
		{meshLine, "mesh \t 2", api.ErrMesh},
		{meshLine, "mesh mesh 2", api.ErrMesh},
		{meshLine, "mesh -\r", api.ErrMesh},
		{meshLine, "mesh -", api.ErrNote},
		{"param ( ) ( ) ( ) 0 0 -", lines(slices.Repeat([]string{"param ( ) ( ) ( ) 0 0 -"}, 28)...) + "param ( ) ( ) ( ) 0 0 -", api.ErrLong},
		{"param ( ) ( 2 4 )", "param ( ) ( 2 33 )", api.ErrShape},
		{"param ( ) ( 2 4 )", "param ( 0 ) ( 2 4 )", api.ErrIndex},
		{"0 0 x.", "0 0 x", api.ErrNote},
		{"0 0 x.", "0 0 xx", api.ErrNote},
		{"0 0 x.", "0 0 --", api.ErrNote},
		{"0 0 x.", "0 0 (", api.ErrNote},
		{"0 0 x.", "0 0 y.", api.ErrNote},
		{"0 0 x.", "0 0 \xff.", api.ErrNote},
		{"0 0 x.", "0 0 \t.", api.ErrNote},
		{"0 0 x.", "0 0 0", api.ErrNote},
		{"0 0 x.", "0 0 " + strings.Repeat(".", 17), api.ErrNote},
		{"-9223372036854775808 0", "-9223372036854775808 1", api.ErrArg},
		{"( 2 4 ) ( 1 )", "( 2 4 ) ( 2 )", api.ErrArg},
		{"neg ( 0 )", "neg ( 4 )", api.ErrIndex},
		{"neg ( 0 )", "neg ( -1 )", api.ErrIndex},
		{"neg ( 0 )", "neg ( 0 0 )", api.ErrArg},
		{"neg ( 0 )", "neg ( )", api.ErrArg},
		{"neg ( 0 ) ( )", "neg ( 0 ) ( 2 4 )", api.ErrArg},
		{"neg ( 0 ) ( ) ( ) 0", "neg ( 0 ) ( ) ( ) 1", api.ErrArg},
		{"add ( 4 3 )", "add ( 4 2 )", api.ErrShape},
		{"turn ( 12 ) ( ) ( 1 0 )", "turn ( 12 ) ( ) ( 1 1 )", api.ErrArg},
		{"spread ( 2 ) ( 3 4 2 )", "spread ( 2 ) ( 3 5 2 )", api.ErrArg},
		{"( 0 1 0 1 3 2 )", "( 0 1 0 1 4 2 )", api.ErrArg},
		{"( 10 18 )", "( 10 19 )", api.ErrShape},
		{"( 10 18 )", "( 10 -18 )", api.ErrArg},
		{"( 0 1 ) 0 4", "( 1 0 ) 0 4", api.ErrArg},
		{"( 0 1 ) 0 4", "( 0 1 ) 0 5", api.ErrArg},
		{"( 0 3 2 ) 0 1", "( 0 3 0 ) 0 1", api.ErrArg},
		{outsLine, "outs 20 0 21", api.ErrIndex},
		{outsLine, "outs 20 -1", api.ErrIndex},
		{outsLine, "outs" + strings.Repeat(" 0", 49), api.ErrLong},
	}
}

// otherForms are a text changed so that it has no such form any more.
func otherForms(s string) []string {
	line := s[:len(s)-1]
	return []string{
		line, line + " \n", line + " 00\n", s + "\n", s + "outs\n", " " + s,
		strings.Replace(s, "mesh ", "mesh  ", 1),
		strings.Replace(s, "20", "020", 1),
		strings.Replace(s, " 1 .\n", " 1 \n", 1),
		strings.ReplaceAll(s, " -\n", " \n"),
		strings.ReplaceAll(s, "\n", "\r\n"),
	}
}

// TestRefusals: graph.Right's, each handed on with no graph beside it, if the text has its form.
func TestRefusals(t *testing.T) {
	s := sampleText()
	for _, f := range faults() {
		if !strings.Contains(s, f.from) {
			t.Fatalf("%q: not in the text", f.from)
		}
		wrong := strings.Replace(s, f.from, f.to, 1)
		refused(t, wrong, f.why)
		for _, other := range otherForms(wrong) {
			if other == wrong {
				continue
			}
			refused(t, other, api.ErrForm)
		}
		if t.Failed() {
			return
		}
	}
}

// TestTwoRefusals: of each two of graph.Right's, the one that it tells itself.
func TestTwoRefusals(t *testing.T) {
	all := faults()
	for _, first := range all {
		for _, second := range all {
			asModel(t, strings.Replace(strings.Replace(sampleText(), first.from, first.to, 1), second.from, second.to, 1))
		}
	}
}

// TestRefusedAsLong: a text that is too long is told to be, whatever else is wrong with it.
func TestRefusedAsLong(t *testing.T) {
	for _, mesh := range []string{"mesh -", "mesh xx 2 2", "mesh x 9", "mesh  -", "Mesh", ""} {
		refused(t, longText(mesh, 1<<16+1), api.ErrLong)
		refused(t, longText(mesh, 1<<16+1)[:1<<16], api.ErrForm)
	}
	for _, sign := range []string{"x", " ", "\n", "0", "(", "\xff", "é", "世", "😀", "outs\n", "mesh -\n", "mesh -\nouts\n", "neg ( 0 ) ( ) ( ) 0 0 -\n"} {
		s := strings.Repeat(sign, 1<<16)
		refused(t, s[:1<<16], api.ErrForm)
		refused(t, s[:1<<16]+"\n", api.ErrLong)
		refused(t, "mesh -\n"+s[:1<<16]+"outs\n", api.ErrLong)
		refused(t, sampleText()+s, api.ErrLong)
	}
	// As many lines and words as there may be, of nodes that may be but are too many.
	refused(t, "mesh -\n"+strings.Repeat("fill ( ) ( ) ( ) 0 0 -\n", 2848)+"outs\n", api.ErrLong)
	refused(t, "mesh -\n"+strings.Repeat("fill ( ) ( ) ( ) 0 0 -\n", 2847)+"nope\nouts\n", api.ErrForm)
	refused(t, "mesh -\nouts"+strings.Repeat(" 0", 32760)+"\n", api.ErrLong)
	refused(t, "mesh x"+strings.Repeat(" 1", 32760)+"\nouts\n", api.ErrMesh)
}

// TestOtherTexts: what a careless reader would take for the sample too. A graph has one text alone.
func TestOtherTexts(t *testing.T) {
	s := sampleText()
	for _, f := range []fault{
		{"( 2 4 )", "( 2  4 )", api.ErrForm},
		{"( 2 4 )", "( 2\t4 )", api.ErrForm},
		{"( 2 4 )", "(2 4)", api.ErrForm},
		{"( 2 4 )", "( 2 04 )", api.ErrForm},
		{"( 2 4 )", "( +2 4 )", api.ErrForm},
		{"( ) 0 0", "( ) 0 -0", api.ErrForm},
		{"( ) 0 0", "( ) 00 0", api.ErrForm},
		{"( ) 0 0", "( ) 0x0 0", api.ErrForm},
		{"( ) 0 0", "() 0 0", api.ErrForm},
		{"9223372036854775807", "09223372036854775807", api.ErrForm},
		{"9223372036854775807", "+9223372036854775807", api.ErrForm},
		{"-9223372036854775808", "9223372036854775808", api.ErrForm},
		{"-9223372036854775808", "-27670116110564327424", api.ErrForm},
		{"x.\n", "x .\n", api.ErrForm},
		{"x.\n", " x.\n", api.ErrForm},
		{"x.\n", "x. \n", api.ErrForm},
		{"0 -\n", "0\n", api.ErrForm},
		{"0 -\n", "0 \n", api.ErrForm},
		{"0 -\n", "0 -\r\n", api.ErrNote},
		{"0 -\n", "0 - -\n", api.ErrForm},
		{"0 -\n", "0 -\n\n", api.ErrForm},
		{"param", "Param", api.ErrForm},
		{"param", " param", api.ErrForm},
		{"mesh ", "mesh\t", api.ErrForm},
		{"2 1 4\n", "2 1 4 \n", api.ErrForm},
		{"2 1 4\n", "2 1 4;", api.ErrForm},
		{"18\n", "18", api.ErrForm},
		{"18\n", "18\r\n", api.ErrForm},
		{"18\n", "18\n\x00", api.ErrForm},
		{"18\n", "18\n# a remark\n", api.ErrForm},
		{"mesh", "\ufeffmesh", api.ErrForm},
	} {
		if !strings.Contains(s, f.from) {
			t.Errorf("%q: not in the text", f.from)
		}
		refused(t, strings.Replace(s, f.from, f.to, 1), f.why)
	}
}
