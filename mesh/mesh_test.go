// Tests of P14.1 against tables written by hand: each function of mesh at ordinary inputs, at the edges, and at wrong ones.
// (model_test.go holds them against a mesh counted device by device, rules_test.go asks for the rules.)
package mesh_test

import (
	"math"
	"slices"
	"testing"

	"parquetry/api"
	"parquetry/mesh"
)

// l makes a list.
func l(n ...int) []int { return n }

// ends are numbers near the ends of an int, and where less of one is left than all its bits.
var ends = l(math.MinInt, math.MinInt+1, math.MinInt32, math.MaxInt32, math.MaxInt/2+1, math.MaxInt-1, math.MaxInt)

// rightMeshes: each with how many devices it has.
var rightMeshes = []struct {
	sizes   []int
	devices int
}{
	{nil, 1},
	{l(), 1},
	{l(1), 1},
	{l(2), 2},
	{l(7), 7},
	{l(api.MaxDevices), 8},
	{l(1, 1), 1},
	{l(1, 8), 8},
	{l(8, 1), 8},
	{l(2, 3), 6},
	{l(3, 2), 6},
	{l(2, 4), 8},
	{l(4, 2), 8},
	{l(1, 1, 1), 1},
	{l(8, 1, 1), 8},
	{l(1, 8, 1), 8},
	{l(1, 1, 8), 8},
	{l(3, 1, 2), 6},
	{l(1, 5, 1), 5},
	{l(2, 2, 2), 8},
}

// wrongMeshes: sizes of 0 and below, too great ones, too many, too many devices; sizes whose product goes round are of goingRound.
var wrongMeshes = [][]int{
	l(0),
	l(0, 0),
	l(0, 1),
	l(1, 0),
	l(8, 0),
	l(0, 8),
	l(2, 0, 2),
	l(0, 9),
	l(9, 0),
	l(0, math.MaxInt),
	l(-1),
	l(-1, -1),
	l(-2, -3),
	l(-2, 1, -3),
	l(-8, -1),
	l(1, -1),
	l(1, -1, -1),
	l(-1, 0),
	l(-1, 9),
	l(math.MinInt),
	l(math.MinInt, math.MinInt),
	l(math.MinInt, -1),
	l(math.MinInt, 0),
	l(math.MinInt, 1),
	l(api.MaxDevices + 1),
	l(9, 1),
	l(1, 9),
	l(1, 1, 9),
	l(math.MaxInt),
	l(1, math.MaxInt),
	l(math.MaxInt, 1),
	l(math.MaxInt, math.MaxInt),
	l(3, 3),
	l(2, 5),
	l(5, 2),
	l(8, 2),
	l(2, 8),
	l(8, 8),
	l(2, 2, 3),
	l(3, 2, 2),
	l(2, 3, 2),
	l(4, 4, 1),
	l(8, 1, 2),
	l(8, 8, 8),
	l(1, 1, 1, 1),
	l(2, 2, 2, 1),
	l(1, 2, 2, 2),
	l(2, 4, 1, 1, 1),
	l(1, 1, 1, 1, 1, 1, 1, 1),
	l(0, 0, 0, 0),
	l(2, 2, 2, 0),
}

// goingRound lists sizes, each above 0, whose product goes round in an int to 0, 1, 2, 8, and some more.
func goingRound() [][]int {
	half := math.MaxInt/2 + 1
	root := 1
	for root < half/root {
		root *= 2
	}
	all := [][]int{{half, 4}, {half, 2, 2}, {4, half, 8}, {root * 2, root * 2}, {root * 2, root, 8}, {2, root * 2, root * 2}}
	found := 0
	for odd := uint(9); found < 5; odd += 2 {
		// Each of these steps doubles how many of the low bits are those of 1 divided by odd, going round.
		inverse := odd
		for range 6 {
			inverse *= 2 - odd*inverse
		}
		if int(inverse) > 0 {
			a, b := int(odd), int(inverse)
			all = append(all, l(a, b), l(b, a), l(1, a, b), l(a, b, 2), l(8, a, b))
			found++
		}
	}
	return all
}

// allWrong lists all meshes of this file that are not Right.
func allWrong() [][]int {
	return append(slices.Clone(wrongMeshes), goingRound()...)
}

func TestRightAndDevices(t *testing.T) {
	for _, c := range rightMeshes {
		if !mesh.Right(c.sizes) {
			t.Errorf("Right(%v): false", c.sizes)
		}
		if got := mesh.Devices(c.sizes); got != c.devices {
			t.Errorf("Devices(%v): %d, not %d", c.sizes, got, c.devices)
		}
	}
	for _, sizes := range allWrong() {
		if mesh.Right(sizes) {
			t.Errorf("Right(%v): true", sizes)
		}
		if got := mesh.Devices(sizes); got != 0 {
			t.Errorf("Devices(%v): %d, not 0", sizes, got)
		}
	}
}

// standing: where some devices stand.
var standing = []struct {
	sizes []int
	d     int
	at    []int
}{
	{nil, 0, nil},
	{l(1), 0, l(0)},
	{l(3), 0, l(0)},
	{l(3), 2, l(2)},
	{l(8), 7, l(7)},
	{l(1, 1), 0, l(0, 0)},
	{l(2, 4), 0, l(0, 0)},
	{l(2, 4), 3, l(0, 3)},
	{l(2, 4), 4, l(1, 0)},
	{l(2, 4), 5, l(1, 1)},
	{l(2, 4), 7, l(1, 3)},
	{l(4, 2), 5, l(2, 1)},
	{l(2, 3), 4, l(1, 1)},
	{l(3, 2), 4, l(2, 0)},
	{l(1, 8), 6, l(0, 6)},
	{l(8, 1), 6, l(6, 0)},
	{l(1, 1, 1), 0, l(0, 0, 0)},
	{l(2, 2, 2), 1, l(0, 0, 1)},
	{l(2, 2, 2), 2, l(0, 1, 0)},
	{l(2, 2, 2), 4, l(1, 0, 0)},
	{l(2, 2, 2), 6, l(1, 1, 0)},
	{l(3, 1, 2), 3, l(1, 0, 1)},
	{l(1, 7, 1), 5, l(0, 5, 0)},
}

func TestAtAndOf(t *testing.T) {
	for _, c := range standing {
		if got := mesh.At(c.sizes, c.d); !slices.Equal(got, c.at) {
			t.Errorf("At(%v, %d): %v, not %v", c.sizes, c.d, got, c.at)
		}
		if got := mesh.Of(c.sizes, c.at); got != c.d {
			t.Errorf("Of(%v, %v): %d, not %d", c.sizes, c.at, got, c.d)
		}
	}
}

// notOf are numbers of no device of a mesh of n.
func notOf(n int) []int {
	return append(l(-1, -2, -n, -n-1, n, n+1, 2*n, n+api.MaxDevices), ends...)
}

func TestAtOfNoDevice(t *testing.T) {
	for _, c := range rightMeshes {
		for _, d := range notOf(c.devices) {
			if got := mesh.At(c.sizes, d); len(got) != 0 {
				t.Errorf("At(%v, %d): %v of %d devices", c.sizes, d, got, c.devices)
			}
		}
	}
	for _, sizes := range allWrong() {
		for _, d := range append(l(0, 1, 7), notOf(8)...) {
			if got := mesh.At(sizes, d); len(got) != 0 {
				t.Errorf("At(%v, %d): %v of a mesh that is not Right", sizes, d, got)
			}
		}
	}
}

func TestOfNoPlace(t *testing.T) {
	for _, c := range []struct{ sizes, at []int }{
		{nil, l(0)},
		{nil, l(1)},
		{nil, l(0, 0, 0)},
		{l(1), nil},
		{l(1), l(1)},
		{l(1), l(-1)},
		{l(1), l(0, 0)},
		{l(8), l(8)},
		{l(2, 4), nil},
		{l(2, 4), l(1)},
		{l(2, 4), l(1, 1, 0)},
		{l(2, 4), l(1, 1, 1, 1)},
		{l(2, 4), l(2, 0)},
		{l(2, 4), l(0, 4)},
		{l(2, 4), l(0, 5)},
		{l(2, 4), l(-1, 0)},
		{l(2, 4), l(-1, 4)},
		{l(2, 4), l(-1, 5)},
		{l(2, 4), l(1, -1)},
		{l(2, 4), l(1, -4)},
		{l(2, 4), l(2, -4)},
		{l(2, 4), l(3, 1)},
		{l(2, 2, 2), l(0, 2, 0)},
		{l(2, 2, 2), l(0, 0, 2)},
		{l(2, 2, 2), l(1, -1, 1)},
		{l(2, 2, 2), l(1, 1)},
		{l(2, 2, 2), l(1, 1, 1, 0)},
	} {
		if got := mesh.Of(c.sizes, c.at); got != -1 {
			t.Errorf("Of(%v, %v): %d, not -1", c.sizes, c.at, got)
		}
	}
	for _, sizes := range allWrong() {
		for _, at := range [][]int{nil, l(0), l(0, 0), l(0, 0, 0), l(0, 0, 0, 0), make([]int, len(sizes)), l(1, 1), sizes} {
			if got := mesh.Of(sizes, at); got != -1 {
				t.Errorf("Of(%v, %v): %d of a mesh that is not Right", sizes, at, got)
			}
		}
	}
}

// TestOfOneNumberOff asks of places that are a device's but for one number.
func TestOfOneNumberOff(t *testing.T) {
	for _, c := range rightMeshes {
		for axis, size := range c.sizes {
			for _, off := range append(l(-1, -2, -size, size, size+1, size+size), ends...) {
				at := make([]int, len(c.sizes))
				at[axis] = off
				if got := mesh.Of(c.sizes, at); got != -1 {
					t.Errorf("Of(%v, %v): %d, not -1", c.sizes, at, got)
				}
			}
		}
	}
}

func TestGroup(t *testing.T) {
	for _, c := range []struct {
		sizes   []int
		d, axis int
		want    []int
	}{
		{l(1), 0, 0, l(0)},
		{l(3), 0, 0, l(0, 1, 2)},
		{l(3), 2, 0, l(0, 1, 2)},
		{l(8), 5, 0, l(0, 1, 2, 3, 4, 5, 6, 7)},
		{l(2, 4), 5, 0, l(1, 5)},
		{l(2, 4), 1, 0, l(1, 5)},
		{l(2, 4), 5, 1, l(4, 5, 6, 7)},
		{l(2, 4), 0, 1, l(0, 1, 2, 3)},
		{l(4, 2), 5, 0, l(1, 3, 5, 7)},
		{l(4, 2), 5, 1, l(4, 5)},
		{l(3, 2), 4, 0, l(0, 2, 4)},
		{l(1, 3), 2, 0, l(2)},
		{l(3, 1), 2, 1, l(2)},
		{l(2, 2, 2), 5, 0, l(1, 5)},
		{l(2, 2, 2), 5, 1, l(5, 7)},
		{l(2, 2, 2), 7, 1, l(5, 7)},
		{l(2, 2, 2), 5, 2, l(4, 5)},
		{l(3, 1, 2), 4, 0, l(0, 2, 4)},
		{l(3, 1, 2), 4, 1, l(4)},
		{l(3, 1, 2), 4, 2, l(4, 5)},
	} {
		if got := mesh.Group(c.sizes, c.d, c.axis); !slices.Equal(got, c.want) {
			t.Errorf("Group(%v, %d, %d): %v, not %v", c.sizes, c.d, c.axis, got, c.want)
		}
	}
}

func TestStep(t *testing.T) {
	for _, c := range []struct {
		sizes             []int
		d, axis, by, want int
	}{
		{l(3), 0, 0, -1, 2},
		{l(3), 0, 0, 0, 0},
		{l(3), 0, 0, 1, 1},
		{l(3), 2, 0, 1, 0},
		{l(3), 1, 0, 3, 1},
		{l(3), 1, 0, -3, 1},
		{l(3), 1, 0, 5, 0},
		{l(3), 1, 0, -4, 0},
		{l(3), 1, 0, -5, 2},
		{l(8), 7, 0, 7, 6},
		{l(8), 0, 0, -9, 7},
		{l(1), 0, 0, 1, 0},
		{l(1), 0, 0, -7, 0},
		{l(2, 4), 5, 0, 1, 1},
		{l(2, 4), 1, 0, 1, 5},
		{l(2, 4), 1, 0, -1, 5},
		{l(2, 4), 5, 0, 7, 1},
		{l(2, 4), 5, 1, 1, 6},
		{l(2, 4), 5, 1, 2, 7},
		{l(2, 4), 5, 1, 3, 4},
		{l(2, 4), 5, 1, -2, 7},
		{l(2, 4), 3, 1, 1, 0},
		{l(4, 2), 7, 0, 1, 1},
		{l(4, 2), 7, 1, 1, 6},
		{l(2, 2, 2), 5, 0, 1, 1},
		{l(2, 2, 2), 5, 1, 1, 7},
		{l(2, 2, 2), 5, 2, 1, 4},
		{l(3, 1, 2), 4, 0, 1, 0},
		{l(3, 1, 2), 4, 1, 1, 4},
		{l(1, 5), 3, 0, 4, 3},
		{l(8), 0, 0, math.MaxInt, 7},
		{l(8), 7, 0, math.MaxInt, 6},
		{l(8), 0, 0, math.MinInt, 0},
		{l(8), 7, 0, math.MinInt, 7},
		{l(8), 0, 0, math.MinInt + 1, 1},
		{l(2, 4), 5, 1, math.MaxInt, 4},
		{l(2, 4), 5, 0, math.MinInt + 1, 1},
		{l(1), 0, 0, math.MaxInt, 0},
		{l(1), 0, 0, math.MinInt, 0},
	} {
		if got := mesh.Step(c.sizes, c.d, c.axis, c.by); got != c.want {
			t.Errorf("Step(%v, %d, %d, %d): %d, not %d", c.sizes, c.d, c.axis, c.by, got, c.want)
		}
	}
}

// isNone holds Group and Step of no such device or axis, or of no such mesh, against none and -1.
func isNone(t *testing.T, sizes []int, d, axis int) {
	t.Helper()
	if got := mesh.Group(sizes, d, axis); len(got) != 0 {
		t.Errorf("Group(%v, %d, %d): %v, not none", sizes, d, axis, got)
	}
	for _, by := range append(l(0, 1, -1, 5), ends...) {
		if got := mesh.Step(sizes, d, axis, by); got != -1 {
			t.Errorf("Step(%v, %d, %d, %d): %d, not -1", sizes, d, axis, by, got)
		}
	}
}

// notOfAxes are numbers of no axis of a mesh of n.
func notOfAxes(n int) []int {
	return append(l(-1, -2, -n-1, n, n+1, n+n+1, api.MaxAxes, api.MaxAxes+1), ends...)
}

func TestGroupAndStepOfNone(t *testing.T) {
	for _, c := range rightMeshes {
		for axis := range c.sizes {
			for _, d := range notOf(c.devices) {
				isNone(t, c.sizes, d, axis)
			}
		}
		for _, axis := range notOfAxes(len(c.sizes)) {
			for d := range c.devices {
				isNone(t, c.sizes, d, axis)
			}
			isNone(t, c.sizes, -1, axis)
			isNone(t, c.sizes, c.devices, axis)
		}
	}
}

func TestGroupAndStepOfWrongMeshes(t *testing.T) {
	for _, sizes := range allWrong() {
		for _, d := range append(l(0, 1, 5, 7), notOf(8)...) {
			for axis := range sizes {
				isNone(t, sizes, d, axis)
			}
			for _, axis := range notOfAxes(len(sizes)) {
				isNone(t, sizes, d, axis)
			}
		}
	}
}
