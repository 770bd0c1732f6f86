// Tests of P3.1, and of the rules R1 to R5 for the calls of datum.
package datum_test

import (
	"errors"
	"math"
	"slices"
	"strings"
	"testing"

	"parquetry/api"
	"parquetry/datum"
)

// A value with the kind it must be of and, if it stands for a tensor, that tensor.
type value struct {
	name string
	v    any
	kind int
	has  bool
	want api.Tensor
}

func of(s []int, l ...int64) api.Tensor { return api.Tensor{Shape: s, Data: l} }

// rank1 makes the tensor of rank 1 with the numbers l.
func rank1(l ...int64) api.Tensor { return of([]int{len(l)}, l...) }

// counted lists size numbers, each unlike the others.
func counted(size int) []int64 {
	l := make([]int64, size)
	for i := range l {
		l[i] = int64(i)*3 - 1
	}
	return l
}

// alike holds shapes and numbers against each other, asking nothing of package tensor.
func alike(a, b api.Tensor) bool {
	return slices.Equal(a.Shape, b.Shape) && slices.Equal(a.Data, b.Data)
}

func nothing(t api.Tensor) bool { return len(t.Shape) == 0 && len(t.Data) == 0 }

func wholes() []value {
	return []value{
		{"int 5", 5, datum.Whole, true, of(nil, 5)},
		{"int 0", 0, datum.Whole, true, of(nil, 0)},
		{"int -1", -1, datum.Whole, true, of(nil, -1)},
		{"int 33", 33, datum.Whole, true, of(nil, 33)},
		{"greatest int", math.MaxInt, datum.Whole, true, of(nil, math.MaxInt)},
		{"least int", math.MinInt, datum.Whole, true, of(nil, math.MinInt)},
		{"int64 5", int64(5), datum.Whole, true, of(nil, 5)},
		{"int64 0", int64(0), datum.Whole, true, of(nil, 0)},
		{"int64 -1", int64(-1), datum.Whole, true, of(nil, -1)},
		{"greatest int64", int64(math.MaxInt64), datum.Whole, true, of(nil, math.MaxInt64)},
		{"least int64", int64(math.MinInt64), datum.Whole, true, of(nil, math.MinInt64)},
	}
}

func rows() []value {
	return []value{
		{"a row", []int64{1, -2, 3}, datum.Row, true, rank1(1, -2, 3)},
		{"a row of numbers at their ends", []int64{math.MaxInt64, math.MinInt64}, datum.Row, true, rank1(math.MaxInt64, math.MinInt64)},
		{"a row of one", []int64{7}, datum.Row, true, rank1(7)},
		{"an empty row", []int64{}, datum.Row, true, rank1()},
		{"a nil row", []int64(nil), datum.Row, true, rank1()},
		{"a row of 31", counted(31), datum.Row, true, rank1(counted(31)...)},
		{"a row of MaxDim", counted(api.MaxDim), datum.Row, true, rank1(counted(api.MaxDim)...)},
		{"a row of MaxDim and one", counted(api.MaxDim + 1), datum.Row, false, api.Tensor{}},
		{"a row of 64", counted(64), datum.Row, false, api.Tensor{}},
		{"a row of MaxElems", counted(api.MaxElems), datum.Row, false, api.Tensor{}},
		{"a row of MaxElems and one", counted(api.MaxElems + 1), datum.Row, false, api.Tensor{}},
	}
}

// fulls: each tensor once by itself, and once by a pointer.
func fulls() []value {
	var l []value
	for _, c := range []struct {
		name  string
		right bool
		t     api.Tensor
	}{
		{"rank 0", true, of(nil, 5)},
		{"rank 0 with an empty shape", true, of([]int{}, -5)},
		{"rank 1", true, rank1(3, 4)},
		{"rank 1 of MaxDim", true, rank1(counted(api.MaxDim)...)},
		{"rank 2", true, of([]int{2, 3}, 1, 2, 3, 4, 5, 6)},
		{"rank 4", true, of([]int{1, 2, 1, 2}, 1, 2, 3, 4)},
		{"a length of 0", true, of([]int{0})},
		{"a length of 0 behind", true, of([]int{3, 0})},
		{"lengths of 0", true, of([]int{0, 0, 0, 0}, []int64{}...)},
		{"MaxElems", true, of([]int{8, 8, 8, 8}, counted(api.MaxElems)...)},
		{"the zero one", false, api.Tensor{}},
		{"no numbers", false, of([]int{2})},
		{"too few numbers", false, of([]int{2, 2}, 1, 2, 3)},
		{"too many numbers", false, of([]int{2}, 1, 2, 3)},
		{"too many of rank 0", false, of(nil, 1, 2)},
		{"a number in a length of 0", false, of([]int{0}, 1)},
		{"too great a length", false, rank1(counted(api.MaxDim + 1)...)},
		{"too high a rank", false, of([]int{1, 1, 1, 1, 1}, 1)},
		{"too many elements", false, of([]int{32, 32, 5}, counted(5120)...)},
		{"a length below 0", false, of([]int{-1})},
		{"lengths below 0", false, of([]int{-1, -1}, 1)},
		{"lengths that go round", false, of([]int{math.MaxInt/2 + 1, 4})},
	} {
		want := api.Tensor{}
		if c.right {
			want = api.Tensor{Shape: slices.Clone(c.t.Shape), Data: slices.Clone(c.t.Data)}
		}
		l = append(l, value{"a tensor: " + c.name, c.t, datum.Full, c.right, want})
		l = append(l, value{"a pointer: " + c.name, &c.t, datum.Full, c.right, want})
	}
	return l
}

func texts() []value {
	of32 := func(n int64) api.Tensor { return rank1(slices.Repeat([]int64{n}, api.MaxDim)...) }
	return []value{
		{"ab", "ab", datum.Text, true, rank1(97, 98)},
		{"a text of no runes", "", datum.Text, true, rank1()},
		{"digits", "5", datum.Text, true, rank1(53)},
		{"a zero byte", "\x00a\x00", datum.Text, true, rank1(0, 97, 0)},
		{"line ends", " \r\n\t", datum.Text, true, rank1(32, 13, 10, 9)},
		{"runes of one to four bytes", "aé世😀", datum.Text, true, rank1(97, 233, 19990, 128512)},
		{"greatest runes of one to four bytes", "\x7f\u07ff\uffff\U0010ffff", datum.Text, true, rank1(0x7f, 0x7ff, 0xffff, 0x10ffff)},
		{"runes that join", "e\u0301\u200d\ufeff", datum.Text, true, rank1(101, 0x301, 0x200d, 0xfeff)},
		{"a byte that is no rune", "a\xffb", datum.Text, true, rank1(97, 0xfffd, 98)},
		{"bytes that are no runes", "\xff\xfe\x80", datum.Text, true, rank1(0xfffd, 0xfffd, 0xfffd)},
		{"a rune that is cut off", "\xe4\xb8", datum.Text, true, rank1(0xfffd, 0xfffd)},
		{"a rune in too many bytes", "\xc0\x80", datum.Text, true, rank1(0xfffd, 0xfffd)},
		{"half of a pair", "\xed\xa0\x80", datum.Text, true, rank1(0xfffd, 0xfffd, 0xfffd)},
		{"the rune of no rune", "\ufffd", datum.Text, true, rank1(0xfffd)},
		{"31 runes", strings.Repeat("z", 31), datum.Text, true, rank1(slices.Repeat([]int64{122}, 31)...)},
		{"MaxDim runes of one byte", strings.Repeat("z", api.MaxDim), datum.Text, true, of32(122)},
		{"MaxDim runes of two bytes", strings.Repeat("é", api.MaxDim), datum.Text, true, of32(233)},
		{"MaxDim runes of four bytes", strings.Repeat("😀", api.MaxDim), datum.Text, true, of32(128512)},
		{"MaxDim bytes that are no runes", strings.Repeat("\xff", api.MaxDim), datum.Text, true, of32(0xfffd)},
		{"MaxDim runes and one, of one byte", strings.Repeat("z", api.MaxDim+1), datum.Text, false, api.Tensor{}},
		{"MaxDim runes and one, of four bytes", strings.Repeat("😀", api.MaxDim+1), datum.Text, false, api.Tensor{}},
		{"MaxDim bytes and one that are no runes", strings.Repeat("\xff", api.MaxDim+1), datum.Text, false, api.Tensor{}},
		{"MaxDim runes and one byte that is none", strings.Repeat("é", api.MaxDim) + "\xc3", datum.Text, false, api.Tensor{}},
		{"64 runes", strings.Repeat("z", 64), datum.Text, false, api.Tensor{}},
	}
}

func manies() []value {
	within := []any{nil}
	within[0] = within
	return []value{
		{"a list", []any{1, "a"}, datum.Many, false, api.Tensor{}},
		{"a list of one", []any{5}, datum.Many, false, api.Tensor{}},
		{"a list of numbers", []any{int64(1), int64(2)}, datum.Many, false, api.Tensor{}},
		{"an empty list", []any{}, datum.Many, false, api.Tensor{}},
		{"a nil list", []any(nil), datum.Many, false, api.Tensor{}},
		{"a list of lists", []any{[]any{[]any{}}, rank1(1)}, datum.Many, false, api.Tensor{}},
		{"a list in itself", within, datum.Many, false, api.Tensor{}},
	}
}

// Types that are not named by the document, though each is made of one that is.
type (
	ownInt    int
	ownInt64  int64
	ownRow    []int64
	ownTensor api.Tensor
	ownText   string
	ownMany   []any
	around    struct{ api.Tensor }
	loud      struct{}
)

// A loud one panics where its text is asked.
func (loud) Error() string  { panic("asked") }
func (loud) String() string { panic("asked") }

func nones() []value {
	n, n64, s, row, many, full := 5, int64(5), "a", []int64{1}, []any{1}, rank1(1)
	pointer := &full
	var l []value
	for _, c := range []struct {
		name string
		v    any
	}{
		{"nil", nil},
		{"a nil pointer to a tensor", (*api.Tensor)(nil)},
		{"a pointer to a pointer to a tensor", &pointer},
		{"true", true},
		{"false", false},
		{"int8", int8(5)}, {"int16", int16(5)}, {"int32", int32(5)}, {"a rune", 'a'},
		{"uint", uint(5)}, {"uint8", uint8(5)}, {"uint16", uint16(5)}, {"uint32", uint32(5)}, {"uint64", uint64(5)}, {"uintptr", uintptr(5)},
		{"float32", float32(5)}, {"float64", 5.0}, {"complex64", complex64(5)}, {"complex128", complex(5, 0)},
		{"[]int", []int{1}}, {"[]int32", []int32{1}}, {"[]uint64", []uint64{1}}, {"[]float64", []float64{1}}, {"nil []int", []int(nil)},
		{"[]byte", []byte("ab")}, {"[]rune", []rune{97}}, {"[]string", []string{"a"}}, {"[][]int64", [][]int64{{1}}},
		{"[]api.Tensor", []api.Tensor{full}}, {"[]*api.Tensor", []*api.Tensor{pointer}}, {"[]error", []error{nil}},
		{"[2]int64", [2]int64{1, 2}}, {"[1]any", [1]any{1}},
		{"*int", &n}, {"*int64", &n64}, {"*string", &s}, {"*[]int64", &row}, {"*[]any", &many}, {"nil *int", (*int)(nil)},
		{"own int", ownInt(5)}, {"own int64", ownInt64(5)}, {"own row", ownRow{1}}, {"own tensor", ownTensor(full)}, {"own text", ownText("a")}, {"own list", ownMany{1}},
		{"pointer to an own tensor", (*ownTensor)(pointer)},
		{"a tensor in a struct", around{full}}, {"a pointer to it", &around{full}},
		{"a node", api.Node{}}, {"a program", api.Program{}}, {"a message", api.Message{T: full}},
		{"an errno", api.ErrArg}, {"an error", errors.New("a")}, {"a loud one", loud{}}, {"a pointer to a loud one", &loud{}},
		{"a struct", struct{}{}}, {"a map", map[string]int64{"a": 1}}, {"a nil map", map[int]any(nil)},
		{"a function", func() int { panic("called") }}, {"a nil function", (func())(nil)}, {"a channel", make(chan int64)},
	} {
		l = append(l, value{c.name, c.v, datum.None, false, api.Tensor{}})
	}
	return l
}

func values() []value {
	return slices.Concat(wholes(), rows(), fulls(), texts(), manies(), nones())
}

func TestKinds(t *testing.T) {
	for i, kind := range []int{datum.None, datum.Whole, datum.Row, datum.Full, datum.Text, datum.Many} {
		if kind != i {
			t.Errorf("kind %d: %d", i, kind)
		}
	}
}

func TestKind(t *testing.T) {
	for _, c := range values() {
		if got := datum.Kind(c.v); got != c.kind {
			t.Errorf("Kind of %s: %d, not %d", c.name, got, c.kind)
		}
	}
}

func TestTensor(t *testing.T) {
	for _, c := range values() {
		got, ok := datum.Tensor(c.v)
		if ok != c.has || !alike(got, c.want) {
			t.Errorf("Tensor of %s: %v, %v", c.name, got, ok)
		}
	}
}

func TestMust(t *testing.T) {
	for _, c := range values() {
		want := c.want
		if !c.has {
			want = of(nil, -1)
		}
		if got := datum.Must(c.v); !alike(got, want) {
			t.Errorf("Must of %s: %v, not %v", c.name, got, want)
		}
	}
}

// TestMustInTurn: what one call recovered from is gone in the next one.
func TestMustInTurn(t *testing.T) {
	for range 3 {
		if got := datum.Must(true); !alike(got, of(nil, -1)) {
			t.Errorf("Must(true): %v", got)
		}
		if got := datum.Must("ab"); !alike(got, rank1(97, 98)) {
			t.Errorf("Must of ab: %v", got)
		}
		if got, ok := datum.Tensor(nil); ok || !nothing(got) {
			t.Errorf("Tensor(nil): %v, %v", got, ok)
		}
	}
}

func TestCount(t *testing.T) {
	full := rank1(1)
	for _, c := range []struct {
		name string
		l    []any
		want []int
	}{
		{"nil", nil, []int{0, 0, 0, 0, 0, 0}},
		{"nothing", []any{}, []int{0, 0, 0, 0, 0, 0}},
		{"one nil", []any{nil}, []int{1, 0, 0, 0, 0, 0}},
		{"one Whole", []any{5}, []int{0, 1, 0, 0, 0, 0}},
		{"one Row", []any{[]int64{5}}, []int{0, 0, 1, 0, 0, 0}},
		{"one Full", []any{full}, []int{0, 0, 0, 1, 0, 0}},
		{"one Text", []any{"a"}, []int{0, 0, 0, 0, 1, 0}},
		{"one Many", []any{[]any{1, 2, 3}}, []int{0, 0, 0, 0, 0, 1}},
		{"some of each", []any{"a", 1, nil, []any{"a", 1}, full, "b", []int64{}, int64(2), &full, 2.5, 3, "c", []any{}, full, []int64{1}, true, 'a'}, []int{4, 3, 2, 3, 3, 2}},
		{"ones that have no tensor", []any{(*api.Tensor)(nil), api.Tensor{}, make([]int64, 33), strings.Repeat("a", 33), []any(nil)}, []int{1, 0, 1, 1, 1, 1}},
	} {
		if got := datum.Count(c.l); !slices.Equal(got, c.want) {
			t.Errorf("Count of %s: %v, not %v", c.name, got, c.want)
		}
	}
}

// TestCountOfAll counts all values at once, forwards and backwards.
func TestCountOfAll(t *testing.T) {
	var l []any
	want := make([]int, datum.Many+1)
	for _, c := range values() {
		l = append(l, c.v)
		want[c.kind]++
	}
	if got := datum.Count(l); !slices.Equal(got, want) {
		t.Errorf("Count: %v, not %v", got, want)
	}
	slices.Reverse(l)
	if got := datum.Count(l); !slices.Equal(got, want) {
		t.Errorf("Count backwards: %v, not %v", got, want)
	}
}

// roomy makes a list with spare room that is full of n.
func roomy[T any](n T, l ...T) []T {
	r := slices.Grow(slices.Clone(l), 6)
	for i := range r[len(l):cap(r)] {
		r[len(l):cap(r)][i] = n
	}
	return r
}

// roomyTensor is x with spare room that is full of n.
func roomyTensor(x api.Tensor, n int) *api.Tensor {
	return &api.Tensor{Shape: roomy(n, x.Shape...), Data: roomy(int64(n), x.Data...)}
}

// kept is a tensor by itself, all of its room included.
func kept(x api.Tensor) api.Tensor {
	return api.Tensor{Shape: slices.Clone(x.Shape[:cap(x.Shape)]), Data: slices.Clone(x.Data[:cap(x.Data)])}
}

// scribble writes over all of a tensor's room.
func scribble(x api.Tensor) {
	for i := range x.Shape[:cap(x.Shape)] {
		x.Shape[:cap(x.Shape)][i] = -77
	}
	for i := range x.Data[:cap(x.Data)] {
		x.Data[:cap(x.Data)][i] = -77
	}
}

// ask asks all that the package's calls make of v.
func ask(v any) (api.Tensor, api.Tensor, []int) {
	datum.Kind(v)
	x, _ := datum.Tensor(v)
	return x, datum.Must(v), datum.Count([]any{v})
}

// TestListsAreKept: no call changes a list that is handed in, its spare room included (R2).
func TestListsAreKept(t *testing.T) {
	for _, size := range []int{0, 1, 5, api.MaxDim, api.MaxDim + 1} {
		l := roomy(99, counted(size)...)
		want := slices.Clone(l[:cap(l)])
		x, must, _ := ask(l)
		scribble(x)
		scribble(must)
		if !slices.Equal(l[:cap(l)], want) {
			t.Errorf("a row of %d: changed", size)
		}
	}
	within := roomy[any](9, 1, "a", nil, 2)
	want := slices.Clone(within[:cap(within)])
	ask(within)
	datum.Count(within)
	if !slices.Equal(within[:cap(within)], want) {
		t.Error("a list: changed")
	}
}

// TestTensorsAreKept: no call changes a tensor that is handed in, by itself or by a pointer, be it Right or not (R2).
func TestTensorsAreKept(t *testing.T) {
	for _, c := range fulls() {
		given, ok := c.v.(api.Tensor)
		if !ok {
			given = *c.v.(*api.Tensor)
		}
		x := roomyTensor(given, 7)
		want, size := kept(*x), len(x.Data)
		for _, v := range []any{*x, x} {
			got, must, _ := ask(v)
			scribble(got)
			scribble(must)
			if !alike(kept(*x), want) || len(x.Data) != size {
				t.Errorf("%s: changed", c.name)
			}
		}
	}
}

// TestNothingIsKept: writing over what was handed in changes no answer (R2).
func TestNothingIsKept(t *testing.T) {
	l, x := []int64{1, 2, 3}, rank1(4, 5)
	y := &api.Tensor{Shape: []int{1, 2}, Data: []int64{6, 7}}
	many := []any{1, "a"}
	var tensors, musts []api.Tensor
	for _, v := range []any{l, x, y} {
		a, b, _ := ask(v)
		tensors, musts = append(tensors, a), append(musts, b)
	}
	counts := datum.Count(many)
	scribble(of(nil, l...))
	l[0], l[1], l[2] = -77, -77, -77
	scribble(x)
	scribble(*y)
	*y = api.Tensor{}
	many[0], many[1] = nil, nil
	for i, want := range []api.Tensor{rank1(1, 2, 3), rank1(4, 5), of([]int{1, 2}, 6, 7)} {
		if !alike(tensors[i], want) || !alike(musts[i], want) {
			t.Errorf("answers of value %d: %v, %v, not %v", i, tensors[i], musts[i], want)
		}
	}
	if !slices.Equal(counts, []int{0, 1, 0, 0, 1, 0}) {
		t.Errorf("Count: %v", counts)
	}
}

// TestAnswersAreNew: writing over all answers of one asking changes none of the next one (R2).
func TestAnswersAreNew(t *testing.T) {
	for _, c := range values() {
		x, must, counts := ask(c.v)
		wantMust, wantCounts := kept(must), slices.Clone(counts)
		scribble(x)
		if !alike(kept(must), wantMust) {
			t.Errorf("%s: the answers of Tensor and Must share memory", c.name)
		}
		scribble(must)
		for i := range counts[:cap(counts)] {
			counts[:cap(counts)][i] = -77
		}
		x, must, counts = ask(c.v)
		if !alike(x, c.want) || !alike(kept(must), wantMust) || !slices.Equal(counts, wantCounts) {
			t.Errorf("%s: its answers share memory from call to call", c.name)
		}
	}
}

// TestSpareRoom: what lies behind a list does not change what is answered (R5).
func TestSpareRoom(t *testing.T) {
	for _, n := range []int{0, 1, -1, 33, math.MaxInt} {
		for _, c := range []struct {
			v    any
			has  bool
			want api.Tensor
		}{
			{roomy(int64(n), 1, 2), true, rank1(1, 2)},
			{roomy(int64(n)), true, rank1()},
			{counted(64)[:api.MaxDim], true, rank1(counted(api.MaxDim)...)},
			{roomyTensor(rank1(1, 2), n), true, rank1(1, 2)},
			{*roomyTensor(of(nil, 1), n), true, of(nil, 1)},
			{api.Tensor{Shape: []int{2}, Data: roomy(int64(n), 1)}, false, api.Tensor{}},
			{api.Tensor{Shape: roomy(n), Data: []int64{1, 2}}, false, api.Tensor{}},
		} {
			if got, ok := datum.Tensor(c.v); ok != c.has || !alike(got, c.want) {
				t.Errorf("spare room of %d: Tensor %v, %v, not %v", n, got, ok, c.want)
			}
		}
		if got := datum.Count(roomy[any](n, "a")); !slices.Equal(got, []int{0, 0, 0, 0, 1, 0}) {
			t.Errorf("spare room of %d: Count %v", n, got)
		}
	}
}

// TestLongValues: calls end, of long values too (R1).
func TestLongValues(t *testing.T) {
	const long = 1 << 20
	numbers, lengths := make([]int64, long), make([]int, long)
	full := api.Tensor{Shape: lengths, Data: numbers}
	deep := any(nil)
	for range long {
		deep = []any{deep}
	}
	for i, c := range []struct {
		v    any
		kind int
	}{
		{numbers, datum.Row},
		{strings.Repeat("a", long), datum.Text},
		{strings.Repeat("世", long), datum.Text},
		{strings.Repeat("\xff", long), datum.Text},
		{full, datum.Full},
		{&full, datum.Full},
		{api.Tensor{Shape: []int{2}, Data: numbers}, datum.Full},
		{api.Tensor{Shape: lengths}, datum.Full},
		{make([]any, long), datum.Many},
		{deep, datum.Many},
	} {
		x, ok := datum.Tensor(c.v)
		if kind := datum.Kind(c.v); kind != c.kind || ok || !nothing(x) || !alike(datum.Must(c.v), of(nil, -1)) {
			t.Errorf("long value %d: of kind %d, or it has a tensor", i, kind)
		}
	}
	if got := datum.Count(make([]any, long)); !slices.Equal(got, []int{long, 0, 0, 0, 0, 0}) {
		t.Errorf("Count of a long list: %v", got)
	}
}
