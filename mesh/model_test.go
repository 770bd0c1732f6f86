// Tests of P14.1 against a mesh that is counted device by device, and steps by numbers that do not go round.
package mesh_test

import (
	"math"
	"math/big"
	"slices"
	"testing"

	"parquetry/api"
	"parquetry/mesh"
)

// eachList hands over each list of n numbers of some, in one list that it fills anew each time.
func eachList(n int, some []int, look func(list []int)) {
	list := make([]int, n)
	var fill func(i int)
	fill = func(i int) {
		if i == n {
			look(list)
			return
		}
		for _, list[i] = range some {
			fill(i + 1)
		}
	}
	fill(0)
}

// eachMesh hands over each mesh that there is.
func eachMesh(look func(sizes []int)) {
	for n := range api.MaxAxes + 1 {
		eachList(n, l(1, 2, 3, 4, 5, 6, 7, 8), func(sizes []int) {
			if devicesOf(sizes) > 0 {
				look(slices.Clone(sizes))
			}
		})
	}
}

// devicesOf is the product, by numbers that do not go round; 0 of no mesh.
func devicesOf(sizes []int) int {
	product := big.NewInt(1)
	for _, size := range sizes {
		if size < 1 || size > 8 {
			return 0
		}
		product.Mul(product, big.NewInt(int64(size)))
	}
	if len(sizes) > 3 || product.Cmp(big.NewInt(8)) > 0 {
		return 0
	}
	return int(product.Int64())
}

// placesOf lists the places of a mesh, each device's, the last way first.
func placesOf(sizes []int) [][]int {
	all := [][]int{{}}
	for _, size := range sizes {
		var longer [][]int
		for _, at := range all {
			for n := range size {
				longer = append(longer, append(slices.Clone(at), n))
			}
		}
		all = longer
	}
	return all
}

// find tells which of all is like at.
func find(all [][]int, at []int) int {
	return slices.IndexFunc(all, func(other []int) bool { return slices.Equal(other, at) })
}

// groupOf is all devices whose places are alike but along axis.
func groupOf(all [][]int, d, axis int) []int {
	var group []int
	for e, at := range all {
		like := slices.Clone(at)
		like[axis] = all[d][axis]
		if slices.Equal(like, all[d]) {
			group = append(group, e)
		}
	}
	return group
}

// stepOf finds the device at the place that d comes to.
func stepOf(sizes []int, all [][]int, d, axis, by int) int {
	place := new(big.Int).Add(big.NewInt(int64(by)), big.NewInt(int64(all[d][axis])))
	at := slices.Clone(all[d])
	at[axis] = int(place.Mod(place, big.NewInt(int64(sizes[axis]))).Int64())
	return find(all, at)
}

// TestMeshesAboutTheLimits asks Right and Devices of all lists of numbers about the limits.
func TestMeshesAboutTheLimits(t *testing.T) {
	some := l(math.MinInt, -8, -2, -1, 0, 1, 2, 3, 4, 5, 7, 8, 9, 16, math.MaxInt)
	right := 0
	for n := range api.MaxAxes + 2 {
		eachList(n, some, func(sizes []int) {
			want := devicesOf(sizes)
			if mesh.Right(sizes) != (want > 0) || mesh.Devices(sizes) != want {
				t.Errorf("%v: Right %v, Devices %d, not %d", sizes, mesh.Right(sizes), mesh.Devices(sizes), want)
			}
			if want > 0 {
				right++
			}
		})
	}
	if right == 0 {
		t.Error("no mesh is Right")
	}
}

// TestEachDeviceOfEachMesh asks for each device's place, and back from it, and that no other place is one.
func TestEachDeviceOfEachMesh(t *testing.T) {
	eachMesh(func(sizes []int) {
		all := placesOf(sizes)
		if mesh.Devices(sizes) != len(all) {
			t.Errorf("Devices(%v): %d, not %d", sizes, mesh.Devices(sizes), len(all))
		}
		for d, at := range all {
			if got := mesh.At(sizes, d); !slices.Equal(got, at) {
				t.Errorf("At(%v, %d): %v, not %v", sizes, d, got, at)
			}
		}
		for n := range api.MaxAxes + 2 {
			eachList(n, l(-1, 0, 1, 2, 3, 7, 8), func(at []int) {
				if got := mesh.Of(sizes, at); got != find(all, at) {
					t.Errorf("Of(%v, %v): %d, not %d", sizes, at, got, find(all, at))
				}
			})
		}
	})
}

// TestEachGroup asks for the group of each device along each axis.
func TestEachGroup(t *testing.T) {
	eachMesh(func(sizes []int) {
		all := placesOf(sizes)
		for d := range all {
			for axis := range sizes {
				want := groupOf(all, d, axis)
				if got := mesh.Group(sizes, d, axis); !slices.Equal(got, want) {
					t.Errorf("Group(%v, %d, %d): %v, not %v", sizes, d, axis, got, want)
				}
			}
		}
	})
}

// TestEachStep asks for steps of each device along each axis: small ones, and those about the ends of an int.
func TestEachStep(t *testing.T) {
	var steps []int
	for by := range 40 {
		steps = append(steps, by-20, math.MinInt+by, math.MaxInt-by)
	}
	steps = append(steps, ends...)
	eachMesh(func(sizes []int) {
		all := placesOf(sizes)
		for d := range all {
			for axis := range sizes {
				for _, by := range steps {
					want := stepOf(sizes, all, d, axis, by)
					if got := mesh.Step(sizes, d, axis, by); got != want {
						t.Errorf("Step(%v, %d, %d, %d): %d, not %d", sizes, d, axis, by, got, want)
					}
				}
			}
		}
	})
}

// TestRound goes along each axis step by step: all of the group is passed, by it, and then the first one again.
func TestRound(t *testing.T) {
	eachMesh(func(sizes []int) {
		for d := range mesh.Devices(sizes) {
			for axis, size := range sizes {
				group := mesh.Group(sizes, d, axis)
				e := d
				for range size {
					next := mesh.Step(sizes, e, axis, 1)
					if mesh.Step(sizes, next, axis, -1) != e || slices.Index(group, next) != (slices.Index(group, e)+1)%size {
						t.Errorf("%v, device %d, axis %d: from %d to %d", sizes, d, axis, e, next)
					}
					e = next
				}
				if e != d {
					t.Errorf("%v, device %d, axis %d: round to %d", sizes, d, axis, e)
				}
			}
		}
	})
}
