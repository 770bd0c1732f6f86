// Tests of P9.1, and of the rules R1 to R5 for the calls of names.
package names_test

import (
	"math"
	"slices"
	"strings"
	"testing"
	"unicode/utf8"

	"parquetry/api"
	"parquetry/names"
)

// half is a number that, taken twice, goes round.
const half = math.MaxInt/2 + 1

// none is the rune that a byte is read as which begins none.
const none = '\ufffd'

// far: numbers that are no place, no rank and no count, such as would be one if they were cut short.
var far = []int{-1, -2, -3, -4, -16, -256, 256, 257, 1 << 16, 1<<16 + 1, 1 << 31, 1<<31 + 1, 1 << 32, 1<<32 + 1, 1<<32 + 2, -1 << 32, 1 - 1<<32, half, half + 1, -half, math.MaxInt - 1, math.MaxInt, math.MinInt, math.MinInt + 1, math.MinInt + 2}

// decoded is P9.1's Runes, rune by rune, asking nothing of the program.
func decoded(s string) []rune {
	var l []rune
	for len(s) > 0 {
		r, size := utf8.DecodeRuneInString(s)
		l = append(l, r)
		s = s[size:]
	}
	return l
}

// rightName tells, by the chapter's words, whether r may be a name.
func rightName(r rune) bool {
	return r >= 0x21 && r != 46 && r != 45 && r != 40 && r != 41 && r != 0xfffd
}

// rightNames is P9.1's Right, asking nothing of the program.
func rightNames(s string, n int) bool {
	l := decoded(s)
	for i, r := range l {
		if !rightName(r) || slices.Contains(l[:i], r) {
			return false
		}
	}
	return len(l) == n && n >= 0 && n <= 3
}

// noted is P9.1's Note, asking nothing of the program.
func noted(s, note string, rank int) ([]int, bool, api.Errno) {
	l, signs := decoded(s), decoded(note)
	told := slices.DeleteFunc(slices.Clone(signs), func(r rune) bool { return r == 32 })
	var spec []int
	for i, r := range told {
		place := slices.Index(l, r)
		if r == 46 {
			place = -1
		} else if place < 0 || slices.Contains(told[:i], r) {
			return nil, false, api.ErrNote
		}
		spec = append(spec, place)
	}
	switch {
	case len(signs) > 16:
		return nil, false, api.ErrNote
	case len(told) == 0:
		return nil, false, api.OK
	case len(told) != rank:
		return nil, false, api.ErrNote
	}
	return spec, true, api.OK
}

// written is P9.1's Text, asking nothing of the program.
func written(s string, spec []int) string {
	l, text := decoded(s), ""
	for _, n := range spec {
		r := '.'
		for place := range l {
			if place == n {
				r = l[place]
			}
		}
		text += string(r)
	}
	return text
}

// eachText hands over each text of n of the parts.
func eachText(n int, parts []string, look func(s string)) {
	if n == 0 {
		look("")
		return
	}
	eachText(n-1, parts, func(s string) {
		for _, part := range parts {
			look(s + part)
		}
	})
}

// eachSpec hands over each list of n of the numbers, a new one each time.
func eachSpec(n int, numbers []int, look func(spec []int)) {
	if n == 0 {
		look([]int{})
		return
	}
	eachSpec(n-1, numbers, func(spec []int) {
		for _, number := range numbers {
			look(append(slices.Clone(spec), number))
		}
	})
}

// eachOrder hands over each order of l.
func eachOrder(l []string, look func(l []string)) {
	if len(l) == 0 {
		look(nil)
		return
	}
	for i, first := range l {
		rest := slices.Delete(slices.Clone(l), i, i+1)
		eachOrder(rest, func(behind []string) { look(append([]string{first}, behind...)) })
	}
}

// answersNote tells whether Note answers that spec.
func answersNote(t *testing.T, s, note string, rank int, want ...int) {
	t.Helper()
	if got, ok, why := names.Note(s, note, rank); !slices.Equal(got, want) || !ok || why != api.OK {
		t.Errorf("Note(%q, %q, %d): %v, %v, %d, not %v", s, note, rank, got, ok, int(why), want)
	}
}

// answersNone tells whether Note answers that the note tells nothing.
func answersNone(t *testing.T, s, note string, rank int) {
	t.Helper()
	if got, ok, why := names.Note(s, note, rank); len(got) > 0 || ok || why != api.OK {
		t.Errorf("Note(%q, %q, %d): %v, %v, %d, not none", s, note, rank, got, ok, int(why))
	}
}

// refusesNote tells whether Note refuses, and answers nothing beside it.
func refusesNote(t *testing.T, s, note string, rank int) {
	t.Helper()
	if got, ok, why := names.Note(s, note, rank); len(got) > 0 || ok || why != api.ErrNote {
		t.Errorf("Note(%q, %q, %d): %v, %v, %d, not ErrNote", s, note, rank, got, ok, int(why))
	}
}

func TestRunes(t *testing.T) {
	for _, c := range []struct {
		s    string
		want []rune
	}{
		{"", nil},
		{"a", []rune{97}},
		{"xy", []rune{120, 121}},
		{"aa", []rune{97, 97}},
		{"é", []rune{233}},
		{"aé世😀", []rune{97, 233, 19990, 128512}},
		{"\x00 \t\n!", []rune{0, 32, 9, 10, 33}},
		{"\x7f\u0080\u07ff\u0800\uffff\U00010000\U0010ffff", []rune{0x7f, 0x80, 0x7ff, 0x800, 0xffff, 0x10000, 0x10ffff}},
		{"e\u0301", []rune{101, 0x301}},
		{"\ufeffa", []rune{0xfeff, 97}},
		{"\ufffd", []rune{none}},
		{"\xff", []rune{none}},
		{"\x80", []rune{none}},
		{"a\xffb", []rune{97, none, 98}},
		{"a\xffé世", []rune{97, none, 233, 19990}},
		{"\xff\xfe\x80", []rune{none, none, none}},
		{"é\x80", []rune{233, none}},
		{"\xc3", []rune{none}},
		{"\xc3a", []rune{none, 97}},
		{"\xe4\xb8", []rune{none, none}},
		{"\xe4\xb8世", []rune{none, none, 19990}},
		{"\xf0\x9f\x98", []rune{none, none, none}},
		{"\xc0\x80", []rune{none, none}},
		{"\xed\xa0\x80", []rune{none, none, none}},
		{"\xf4\x90\x80\x80", []rune{none, none, none, none}},
	} {
		if got := names.Runes(c.s); !slices.Equal(got, c.want) {
			t.Errorf("Runes(%q): %q, not %q", c.s, got, c.want)
		}
	}
}

// TestRunesOfAll asks each rune by itself and amid others, and each two bytes.
func TestRunesOfAll(t *testing.T) {
	for r := rune(0); r <= utf8.MaxRune; r++ {
		if r >= 0xd800 && r <= 0xdfff {
			continue
		}
		if got := names.Runes(string([]rune{r, 'x', r})); !slices.Equal(got, []rune{r, 'x', r}) {
			t.Errorf("Runes of %U: %q", r, got)
		}
	}
	for n := range 1 << 16 {
		s := string([]byte{byte(n >> 8), byte(n)})
		if got := names.Runes(s); !slices.Equal(got, decoded(s)) {
			t.Errorf("Runes(%q): %q", s, got)
		}
	}
}

func TestRight(t *testing.T) {
	for _, c := range []struct {
		s    string
		n    int
		want bool
	}{
		{"", 0, true},
		{"", 1, false},
		{"", -1, false},
		{"x", 1, true},
		{"x", 0, false},
		{"x", 2, false},
		{"x", -1, false},
		{"é", 1, true},
		{"é", 2, false},
		{"世", 1, true},
		{"世", 3, false},
		{"😀", 1, true},
		{"xy", 2, true},
		{"xy", 1, false},
		{"xy", 3, false},
		{"éx", 2, true},
		{"éx", 3, false},
		{"xyz", 3, true},
		{"xyz", 2, false},
		{"éx世", 3, true},
		{"世界é", 3, true},
		{"xyzw", 4, false},
		{"xyzw", 3, false},
		{"éx世w", 4, false},
		{"xX", 2, true},
		{"09", 2, true},
		{"!", 1, true},
		{"!\"#", 3, true},
		{" ", 1, false},
		{" ", 0, false},
		{"x ", 1, false},
		{"x ", 2, false},
		{" x", 2, false},
		{"x y", 3, false},
		{"\u00a0", 1, true},
		{"\u2003\u3000", 2, true},
		{"\x7f\u0080\u0085", 3, true},
		{"+*,", 3, true},
		{"\u2010\u2024", 2, true},
		{"[]", 2, true},
		{"e\u0301", 2, true},
		{"e\u0301", 1, false},
		{"xx", 2, false},
		{"xx", 1, false},
		{"xyx", 3, false},
		{"xyy", 3, false},
		{"xxy", 3, false},
		{"xyx", 2, false},
		{"éé", 2, false},
		{"世x世", 3, false},
		{"\xff", 1, false},
		{"\xff\xfe", 2, false},
		{"x\xff", 2, false},
		{"\xffx", 2, false},
		{"x\xff", 1, false},
		{"x\xffy", 3, false},
		{"\xe4\xb8", 1, false},
		{"\xe4\xb8", 2, false},
		{"\ufffd", 1, false},
		{"\ufffc\ufffe", 2, true},
	} {
		if got := names.Right(c.s, c.n); got != c.want {
			t.Errorf("Right(%q, %d): %v", c.s, c.n, got)
		}
	}
}

// TestRightOfEachRune asks each rune by itself, and the low ones and those about U+FFFD at each place of three.
func TestRightOfEachRune(t *testing.T) {
	for r := rune(0); r <= utf8.MaxRune; r++ {
		if r >= 0xd800 && r <= 0xdfff {
			continue
		}
		if got := names.Right(string(r), 1); got != rightName(r) {
			t.Errorf("Right of %U: %v", r, got)
		}
		if r > 0x400 && (r < 0xff00 || r > 0x10100) {
			continue
		}
		for _, l := range [][]rune{{r, 'x', 0x4e16}, {'x', r, 0x4e16}, {'x', 0x4e16, r}} {
			if got := names.Right(string(l), 3); got != (rightName(r) && r != 'x') {
				t.Errorf("Right of %q: %v", l, got)
			}
		}
	}
}

// TestRightOfAll asks all texts of 0 to 4 signs, ones that may be no name among them, of each n about MaxAxes.
func TestRightOfAll(t *testing.T) {
	signs := []string{"x", "y", "é", "世", " ", ".", "-", "(", ")", "\ufffd", "\xff", "\x1f", "!"}
	for many := range 5 {
		eachText(many, signs, func(s string) {
			for n := -2; n <= 5; n++ {
				if got := names.Right(s, n); got != rightNames(s, n) {
					t.Errorf("Right(%q, %d): %v", s, n, got)
				}
			}
		})
	}
}

// TestRightOfFarCounts: no text has so many names.
func TestRightOfFarCounts(t *testing.T) {
	for _, s := range []string{"", "x", "xy", "xyz", "éx世", "xyzw", " ", "\xff", strings.Repeat("x", 256), strings.Repeat("x", 257)} {
		for _, n := range append(far, 4, 5, 16, 17) {
			if names.Right(s, n) {
				t.Errorf("Right(%q, %d)", s, n)
			}
		}
	}
}

func TestFind(t *testing.T) {
	for _, c := range []struct {
		s    string
		r    rune
		want int
	}{
		{"", 'x', -1},
		{"", 0, -1},
		{"x", 'x', 0},
		{"x", 'y', -1},
		{"xy", 'x', 0},
		{"xy", 'y', 1},
		{"xy", 'z', -1},
		{"xy", 'X', -1},
		{"éx世", 'é', 0},
		{"éx世", 'x', 1},
		{"éx世", '世', 2},
		{"éx世", 0xc3, -1},
		{"éx世", 0xa9, -1},
		{"😀世é!", '!', 3},
		{"xx", 'x', 0},
		{"yxzx", 'x', 1},
		{"é世é世", '世', 1},
		{"x y.z", ' ', 1},
		{"x y.z", '.', 3},
		{"-()\n", '\n', 3},
		{"\x00x", 0, 0},
		{"a\xffb", none, 1},
		{"a\xffb", 'b', 2},
		{"a\xffb", 0xff, -1},
		{"\xff\xfe", none, 0},
		{"é\x80\ufffd", none, 1},
		{"\xe4\xb8x", 'x', 2},
		{"ab\ufffd", none, 2},
		{"ab", none, -1},
		{"ab", -1, -1},
		{"ab", math.MaxInt32, -1},
		{"ab", math.MinInt32, -1},
		{"ab", 'a' + 256, -1},
		{"ab", 'b' + 1<<16, -1},
		{"\xed\xa0\x80", 0xd800, -1},
		{"\xff", 0x110000, -1},
		{"\xff", -1, -1},
	} {
		if got := names.Find(c.s, c.r); got != c.want {
			t.Errorf("Find(%q, %q): %d, not %d", c.s, c.r, got, c.want)
		}
	}
}

// TestFindOfAll asks each sign of all texts of 0 to 4.
func TestFindOfAll(t *testing.T) {
	signs := []string{"x", "y", "é", "世", " ", ".", "\ufffd", "\xff"}
	for many := range 5 {
		eachText(many, signs, func(s string) {
			l := decoded(s)
			for _, r := range []rune{'x', 'y', 'z', 'é', '世', ' ', '.', none, 0xff, 0xe9, 0, -1} {
				if got := names.Find(s, r); got != slices.Index(l, r) {
					t.Errorf("Find(%q, %q): %d", s, r, got)
				}
			}
		})
	}
}

func TestNote(t *testing.T) {
	for _, c := range []struct {
		s, note string
		rank    int
		want    []int
	}{
		{"xy", "y .", 2, []int{1, -1}},
		{"xy", "y.", 2, []int{1, -1}},
		{"xy", ".y", 2, []int{-1, 1}},
		{"xy", "xy", 2, []int{0, 1}},
		{"xy", "yx", 2, []int{1, 0}},
		{"xy", "..", 2, []int{-1, -1}},
		{"xy", " y  x ", 2, []int{1, 0}},
		{"xy", "   .", 1, []int{-1}},
		{"xy", "x   ", 1, []int{0}},
		{"x", "x", 1, []int{0}},
		{"x", ".x..", 4, []int{-1, 0, -1, -1}},
		{"", ".", 1, []int{-1}},
		{"", "....", 4, []int{-1, -1, -1, -1}},
		{"é", "é", 1, []int{0}},
		{"éx世", "世 . é", 3, []int{2, -1, 0}},
		{"éx世", "x世é.", 4, []int{1, 2, 0, -1}},
		{"éx世", "é世", 2, []int{0, 2}},
		// More axes than a tensor may have are no refusal of its own.
		{"xyz", "x.y.z", 5, []int{0, -1, 1, -1, 2}},
		{"", "................", 16, []int{-1, -1, -1, -1, -1, -1, -1, -1, -1, -1, -1, -1, -1, -1, -1, -1}},
		// Names are read as they are, Right or not.
		{"abcdefgh", "hgfedcba", 8, []int{7, 6, 5, 4, 3, 2, 1, 0}},
		{"xx", "x", 1, []int{0}},
		{"xxy", "y.x", 3, []int{2, -1, 0}},
		{"-()", ")-(", 3, []int{2, 0, 1}},
		{"\tx\n", "\n\tx", 3, []int{2, 0, 1}},
		{"\u00a0", " \u00a0 ", 1, []int{0}},
		{".x", "x..", 3, []int{1, -1, -1}},
		{" x", " x ", 1, []int{1}},
		{"a\xff", "\xff", 1, []int{1}},
		{"a\xffb", "b a", 2, []int{2, 0}},
		{"a\xffb", "b\ufffda", 3, []int{2, 1, 0}},
		{"\ufffd", "\x80", 1, []int{0}},
		{"\xff\xfe", "\xfe", 1, []int{0}},
	} {
		answersNote(t, c.s, c.note, c.rank, c.want...)
	}
}

func TestNoteRefuses(t *testing.T) {
	for _, c := range []struct {
		s, note string
		rank    int
	}{
		// Another number of signs than the rank.
		{"xy", "y", 2},
		{"xy", "y", 0},
		{"xy", "y..", 2},
		{"xy", "yx", 1},
		{"xy", ".", 0},
		{"xy", ".", 2},
		{"xy", " x ", 3},
		{"世", "世", 3},
		// A name twice.
		{"xy", "yy", 2},
		{"xy", "yy", 1},
		{"x", "xx", 2},
		{"xy", "y.y", 3},
		{"xy", "x y x", 3},
		{"xyz", "xyzx", 4},
		{"xyz", "zxyz", 4},
		{"éx世", "世.世", 3},
		{"xx", "xx", 2},
		{"\xff", "\xff\xff", 2},
		{"\xff\xfe", "\xff\xfe", 2},
		{"\ufffd", "\ufffd\x80", 2},
		// A sign that is no name here.
		{"xy", "z", 1},
		{"xy", "z.", 2},
		{"xy", "xz", 2},
		{"xy", "x.z", 3},
		{"xy", "X", 1},
		{"xy", "-", 1},
		{"xy", "(", 1},
		{"xy", "x,y", 3},
		{"xy", "x\t.", 2},
		{"xy", "x\t.", 3},
		{"xy", "x\n", 1},
		{"xy", "x\u00a0", 1},
		{"xy", "\x00", 1},
		{"xy", "\x00", 0},
		{"", "x", 1},
		{"é", "e", 1},
		{"é", "\xc3", 1},
		{"é", "\xa9", 1},
		{"é", "\xc3 \xa9", 2},
		{"x", "\xff", 1},
		{"x", "x\xff", 2},
		{"x", "x\xff", 1},
		{"x", "\ufffd", 1},
		{"x", "0", 1},
		{"x", "-1", 1},
		{"x", "x\u0301", 1},
	} {
		refusesNote(t, c.s, c.note, c.rank)
	}
}

// TestNoteOfNothing: blanks alone, or no signs, are none, whatever the rank.
func TestNoteOfNothing(t *testing.T) {
	ranks := append(far, 0, 1, 2, 3, 4, 5, 15, 16, 17)
	for _, s := range []string{"", "x", "xyz", "éx世", " ", ". ", "\xff", "xx", strings.Repeat(" ", 17)} {
		for _, rank := range ranks {
			for many := range api.MaxNote + 1 {
				answersNone(t, s, strings.Repeat(" ", many), rank)
			}
			for _, many := range []int{17, 18, 32, 256, 1 << 12} {
				refusesNote(t, s, strings.Repeat(" ", many), rank)
			}
		}
	}
}

// TestNoteOfFarRanks: no note tells so many axes.
func TestNoteOfFarRanks(t *testing.T) {
	for _, note := range []string{"x", ".", "x.", " y . ", "xyz.", "................"} {
		for _, rank := range append(far, 0, 3, 17) {
			refusesNote(t, "xyz", note, rank)
		}
	}
}

// TestNoteLength: a note has at most MaxNote runes, blanks among them; how many bytes they are is the same.
func TestNoteLength(t *testing.T) {
	for _, sign := range []string{"x", "é", "世", "😀", "\xff", "\ufffd"} {
		for ahead := range api.MaxNote {
			behind := api.MaxNote - 1 - ahead
			note := strings.Repeat(" ", ahead) + sign + strings.Repeat(" ", behind)
			answersNote(t, "ab"+sign, note, 1, 2)
			refusesNote(t, "ab"+sign, note+" ", 1)
			refusesNote(t, "ab"+sign, " "+note, 1)
			dots := strings.Repeat(".", ahead) + sign + strings.Repeat(".", behind)
			want := slices.Repeat([]int{-1}, api.MaxNote)
			want[ahead] = 2
			answersNote(t, "ab"+sign, dots, api.MaxNote, want...)
			refusesNote(t, "ab"+sign, dots+".", api.MaxNote+1)
			refusesNote(t, "ab"+sign, dots+" ", api.MaxNote)
			refusesNote(t, "ab"+sign, " "+dots, api.MaxNote)
		}
	}
	const s, backwards = "aéb世cdefghijklm😀", "😀mlkjihgfedc世béa"
	answersNote(t, s, backwards, api.MaxNote, 15, 14, 13, 12, 11, 10, 9, 8, 7, 6, 5, 4, 3, 2, 1, 0)
	refusesNote(t, s, backwards+".", api.MaxNote+1)
	refusesNote(t, s+"z", backwards+"z", api.MaxNote+1)
	refusesNote(t, s, backwards[:len(backwards)-1]+"é", api.MaxNote)
}

// TestNoteOrders: each order of the names, '.' at each place, with blanks between, around, or none.
func TestNoteOrders(t *testing.T) {
	for _, s := range []string{"", "x", "é", "xy", "世x", "xyz", "éx世", "😀é!"} {
		var signs []string
		for _, r := range decoded(s) {
			signs = append(signs, string(r))
		}
		// With two blanks between and around, three names and two '.' are 15 runes.
		for many := range 3 {
			eachOrder(append(slices.Repeat([]string{"."}, many), signs...), func(l []string) {
				if len(l) == 0 {
					return
				}
				var want []int
				for _, sign := range l {
					want = append(want, slices.Index(signs, sign))
				}
				for _, blanks := range []string{"", " ", "  "} {
					note := strings.Join(l, blanks)
					answersNote(t, s, note, len(l), want...)
					answersNote(t, s, blanks+note, len(l), want...)
					answersNote(t, s, note+blanks, len(l), want...)
					refusesNote(t, s, note, len(l)-1)
					refusesNote(t, s, note, len(l)+1)
				}
			})
		}
	}
}

// TestNoteOfAll asks all notes of 0 to 4 signs, of names Right and not.
func TestNoteOfAll(t *testing.T) {
	signs := []string{" ", ".", "x", "é", "世", "-", "\t", "\xff", "\ufffd"}
	for _, s := range []string{"", "x", "éx世", "世é", "xx", " x.", "-x", "x\xff", "\ufffdé", "\t"} {
		for many := range 5 {
			eachText(many, signs, func(note string) {
				for rank := -1; rank <= 5; rank++ {
					got, ok, why := names.Note(s, note, rank)
					want, wantOk, wantWhy := noted(s, note, rank)
					if !slices.Equal(got, want) || ok != wantOk || why != wantWhy {
						t.Errorf("Note(%q, %q, %d): %v, %v, %d, not %v, %v, %d", s, note, rank, got, ok, int(why), want, wantOk, int(wantWhy))
					}
				}
			})
		}
	}
}

// TestNoteOfEachRune: but for the blank and '.', a sign is told where it is a name, and refused where it is none.
func TestNoteOfEachRune(t *testing.T) {
	for r := rune(0); r <= utf8.MaxRune; r++ {
		if r == ' ' || r == '.' || r >= 0xd800 && r <= 0xdfff {
			continue
		}
		note := " " + string(r) + " "
		answersNote(t, string([]rune{' ', r}), note, 1, 1)
		refusesNote(t, string([]rune{' ', r ^ 0x20000}), note, 1)
	}
}

func TestText(t *testing.T) {
	for _, c := range []struct {
		s    string
		spec []int
		want string
	}{
		{"xy", nil, ""},
		{"xy", []int{}, ""},
		{"", nil, ""},
		{"xy", []int{0}, "x"},
		{"xy", []int{1}, "y"},
		{"xy", []int{-1}, "."},
		{"xy", []int{2}, "."},
		{"xy", []int{1, -1, 0}, "y.x"},
		{"xy", []int{1, 1}, "yy"},
		{"xy", []int{-1, -1, -1, -1}, "...."},
		{"xy", []int{-2, 2, 0, 3}, "..x."},
		{"xy", []int{math.MaxInt, math.MinInt, 1, math.MaxInt - 1, math.MinInt + 1}, "..y.."},
		{"éx世", []int{2, 0, 1}, "世éx"},
		{"éx世", []int{3, 2, 6}, ".世."},
		{"😀", []int{0, 0, 1}, "😀😀."},
		{"", []int{0, -1, 1}, "..."},
		{"xyzw", []int{3, 2, 1, 0}, "wzyx"},
		{"xx", []int{1, 0}, "xx"},
		{" .-()", []int{4, 3, 2, 1, 0}, ")(-. "},
		{"\x00\n", []int{1, 0}, "\n\x00"},
		{"a\xff", []int{1}, "\ufffd"},
		{"a\xffb", []int{2, 1, 0}, "b\ufffda"},
		{"\xff\xfe", []int{1, 0}, "\ufffd\ufffd"},
		{"\xe4\xb8x", []int{2, 0, 3}, "x\ufffd."},
		{"\ufffd", []int{0}, "\ufffd"},
	} {
		if got := names.Text(c.s, c.spec); got != c.want {
			t.Errorf("Text(%q, %v): %q, not %q", c.s, c.spec, got, c.want)
		}
	}
}

// TestTextOfFarNumbers: they are none of the names, wherever they stand.
func TestTextOfFarNumbers(t *testing.T) {
	for _, n := range append(far, 3, 4, 5, 6, 7) {
		for _, s := range []string{"éx世", "xyz"} {
			last := string(decoded(s)[2])
			for _, c := range []struct {
				spec []int
				want string
			}{
				{[]int{n}, "."},
				{[]int{n, 2}, "." + last},
				{[]int{2, n}, last + "."},
				{[]int{2, n, 2}, last + "." + last},
			} {
				if got := names.Text(s, c.spec); got != c.want {
					t.Errorf("Text(%q, %v): %q, not %q", s, c.spec, got, c.want)
				}
			}
		}
	}
}

// TestTextOfAll asks all specs of 0 to 4 numbers about the names.
func TestTextOfAll(t *testing.T) {
	for _, s := range []string{"", "x", "é", "xy", "éx世", "xx", " x.", "x\xff", "xyzw"} {
		for many := range 5 {
			eachSpec(many, []int{-2, -1, 0, 1, 2, 3, 4}, func(spec []int) {
				if got := names.Text(s, spec); got != written(s, spec) {
					t.Errorf("Text(%q, %v): %q", s, spec, got)
				}
			})
		}
	}
}

// TestNoteOfText: a spec that is written as a note is read as itself, if it has no name twice.
func TestNoteOfText(t *testing.T) {
	for _, s := range []string{"x", "é", "xy", "世x", "xyz", "éx世"} {
		rank := len(decoded(s))
		for many := range 5 {
			eachSpec(many, slices.Concat([]int{-1}, []int{0, 1, 2}[:rank]), func(spec []int) {
				note := names.Text(s, spec)
				named := slices.DeleteFunc(slices.Clone(spec), func(n int) bool { return n < 0 })
				slices.Sort(named)
				switch {
				case many == 0:
					answersNone(t, s, note, 0)
				case len(slices.Compact(slices.Clone(named))) < len(named):
					refusesNote(t, s, note, many)
				default:
					answersNote(t, s, note, many, spec...)
				}
			})
		}
	}
}

// roomy makes a list with spare room that is full of n.
func roomy[T any](n T, l ...T) []T {
	r := slices.Grow(slices.Clone(l), 6)
	for i := range r[len(l):cap(r)] {
		r[len(l):cap(r)][i] = n
	}
	return r
}

// scribble writes over all of a list's room.
func scribble[T any](l []T, n T) {
	l = l[:cap(l)]
	for i := range l {
		l[i] = n
	}
}

// TestHandedInIsKept: no call changes a spec, its spare room included (R2).
func TestHandedInIsKept(t *testing.T) {
	for _, l := range [][]int{nil, {0}, {1, -1, 0}, {5, math.MinInt, math.MaxInt, -2}, slices.Repeat([]int{1}, 20)} {
		spec := roomy(1, l...)
		want := slices.Clone(spec[:cap(spec)])
		names.Text("xy", spec)
		names.Text("", spec)
		if len(spec) != len(l) || !slices.Equal(spec[:cap(spec)], want) {
			t.Errorf("%v: changed", l)
		}
	}
}

// TestNothingIsKept: writing over a spec changes no text that was made of it (R2).
func TestNothingIsKept(t *testing.T) {
	spec := roomy(0, 1, -1, 0)
	got := names.Text("éx", spec)
	scribble(spec, 1)
	if got != "x.é" {
		t.Errorf("Text: %q", got)
	}
	if got := names.Text("éx", spec); got != "xxx" {
		t.Errorf("Text anew: %q", got)
	}
}

// TestAnswersAreNew: writing over an answer, its spare room too, changes no other one (R2).
func TestAnswersAreNew(t *testing.T) {
	const s, note = "éx世", "世 . é"
	for range 3 {
		first, _, _ := names.Note(s, note, 3)
		second, _, _ := names.Note(s, note, 3)
		scribble(first, -77)
		if !slices.Equal(second, []int{2, -1, 0}) {
			t.Errorf("Note: %v", second)
		}
		scribble(second, -77)
		answersNote(t, s, note, 3, 2, -1, 0)
		runes, more := names.Runes(s), names.Runes(s)
		scribble(runes, -77)
		if !slices.Equal(more, []rune{'é', 'x', '世'}) {
			t.Errorf("Runes: %q", more)
		}
		scribble(more, -77)
		if got := names.Runes(s); !slices.Equal(got, []rune{'é', 'x', '世'}) {
			t.Errorf("Runes anew: %q", got)
		}
		if got := names.Text(s, []int{2, 1, 0}); got != "世xé" {
			t.Errorf("Text: %q", got)
		}
	}
}

// TestSpareRoom: what lies behind a spec does not change what is answered (R5).
func TestSpareRoom(t *testing.T) {
	for _, n := range []int{0, 1, -1, 2, math.MaxInt} {
		for _, c := range []struct {
			spec []int
			want string
		}{
			{roomy(n), ""},
			{roomy(n, 1), "y"},
			{roomy(n, 1, -1, 0), "y.x"},
			{roomy(n, 7), "."},
		} {
			if got := names.Text("xy", c.spec); got != c.want {
				t.Errorf("spare room of %d: Text of %v: %q, not %q", n, c.spec, got, c.want)
			}
		}
	}
}

// TestNilAndEmpty: they mean the same (R4).
func TestNilAndEmpty(t *testing.T) {
	for _, s := range []string{"", "x", "éx世"} {
		for _, spec := range [][]int{nil, {}, roomy(0)} {
			if got := names.Text(s, spec); got != "" {
				t.Errorf("Text(%q, %#v): %q", s, spec, got)
			}
		}
	}
}

// TestSameAgain: a call answers the same, whatever was asked ahead of it (R4).
func TestSameAgain(t *testing.T) {
	for range 3 {
		refusesNote(t, "x", "xx", 2)
		answersNote(t, "x", "x", 1, 0)
		answersNone(t, "x", "", 1)
		refusesNote(t, "y", "x", 1)
		answersNote(t, "yx", "x", 1, 1)
		if !names.Right("xy", 2) || names.Right("xx", 2) || names.Find("xy", 'y') != 1 || names.Find("y", 'x') != -1 {
			t.Error("Right or Find: another answer")
		}
	}
}

// TestLongTexts: calls end, of long texts and lists too (R1).
func TestLongTexts(t *testing.T) {
	const long = 1 << 20
	for _, sign := range []string{"x", ".", " ", "é", "世", "\xff", "\x00"} {
		s := strings.Repeat(sign, long)
		r := decoded(sign)[0]
		if got := names.Runes(s); len(got) != long || got[0] != r || got[long-1] != r {
			t.Errorf("Runes of many %q: %d", sign, len(got))
		}
		for _, n := range []int{-1, 0, 1, 3, 4, long, math.MaxInt, math.MinInt} {
			if names.Right(s, n) {
				t.Errorf("Right of many %q, %d", sign, n)
			}
			refusesNoteOfMany(t, "x", s, n)
			refusesNoteOfMany(t, s, s, n)
		}
		if names.Find(s, 'y') != -1 || names.Find(s+"y", 'y') != long || names.Find(s, r) != 0 {
			t.Errorf("Find in many %q", sign)
		}
		answersNote(t, s+"yz", "z.y.", 4, long+1, -1, long, -1)
		if got := names.Text(s+"yz", []int{long + 1, long + 2, long, -1}); got != "z.y." {
			t.Errorf("Text of many %q: %q", sign, got)
		}
	}
	spec := make([]int, long)
	for i := range spec {
		spec[i] = long - i
	}
	if got := names.Text(strings.Repeat("é", long), spec); got != "."+strings.Repeat("é", long-1) {
		t.Errorf("Text of a long spec: %d bytes", len(got))
	}
}

// refusesNoteOfMany is refusesNote of texts that are too long to be told.
func refusesNoteOfMany(t *testing.T, s, note string, rank int) {
	t.Helper()
	if got, ok, why := names.Note(s, note, rank); len(got) > 0 || ok || why != api.ErrNote {
		t.Errorf("Note of %d bytes, of rank %d: %v, %v, %d", len(note), rank, got, ok, int(why))
	}
}
