package tests

import (
	"fmt"
	"math"
	"math/rand"
	"slices"
	"testing"

	"loop.example/g00908/impl"
)

// cutSizes are sizes of few cells of which all cuts are tried.
func cutSizes() [][]int {
	return append(smallSizes(2), []int{5}, []int{3, 4}, []int{4, 1, 3}, []int{3, 2, 3}, []int{1, 3, 2, 2})
}

// checkMargins asks for all margins of a valid cube.
func checkMargins(t *testing.T, c impl.Cube) {
	t.Helper()
	for _, dims := range setsOfVariables(len(c.Sizes)) {
		margin, ok := impl.MarginOf(c, dims)
		expectCube(t, fmt.Sprintf("MarginOf %v of %.200s", dims, fmt.Sprint(c)), margin, ok, marginOf(c, dims), true)
		if !impl.IsCube(margin) {
			t.Error("a margin is no cube", c, dims)
		}
	}
}

// checkSlices asks for all slices of a dimension, which add up to that of the
// total.
func checkSlices(t *testing.T, c impl.Cube, dim int) {
	t.Helper()
	size := c.Sizes[dim]
	total, ok := impl.SliceOf(c, dim, size)
	sums := make([]int, len(total.Cells))
	for i := range size {
		cut, is := impl.SliceOf(c, dim, i)
		expectCube(t, fmt.Sprintf("SliceOf %d %d of %.200s", dim, i, fmt.Sprint(c)), cut, is, sliceOf(c, dim, i), true)
		if !impl.IsCube(cut) {
			t.Error("a slice is no cube", c, dim, i)
		}
		for k, n := range cut.Cells {
			sums[k] += n
		}
	}
	expectCube(t, fmt.Sprintf("SliceOf the total of %d of %.200s", dim, fmt.Sprint(c)), total, ok, sliceOf(c, dim, size), true)
	expectInts(t, "sums of slices", sums, true, total.Cells, true)
	others := slices.DeleteFunc([]int{0, 1, 2, 3}[:len(c.Sizes)], func(d int) bool { return d == dim })
	margin, ok := impl.MarginOf(c, others)
	expectCube(t, "the margin without the dimension", margin, ok, total, true)
}

// checkGroups joins indices, and refuses numbers that are no groups.
func checkGroups(t *testing.T, c impl.Cube, dim int, groups []int) {
	t.Helper()
	want, wantOK := impl.Cube{}, false
	if len(groups) == c.Sizes[dim] && joinIsGood(groups) {
		want, wantOK = joinedOf(c, dim, groups)
	}
	joined, ok := impl.GroupCube(c, dim, groups)
	expectCube(t, fmt.Sprintf("GroupCube %d %.100s of %.200s", dim, fmt.Sprint(groups), fmt.Sprint(c)), joined, ok, want, wantOK)
}

// checkDifference takes two valid cubes.
func checkDifference(t *testing.T, a, b impl.Cube) {
	t.Helper()
	want, wantOK := differenceOf(a, b)
	c, ok := impl.DifferenceOf(a, b)
	expectCube(t, fmt.Sprintf("DifferenceOf %.200s and %.200s", fmt.Sprint(a), fmt.Sprint(b)), c, ok, want, wantOK)
	if ok && !impl.IsCube(c) {
		t.Error("a difference is no cube", a, b)
	}
}

func TestCutExamples(t *testing.T) {
	c := impl.Cube{Sizes: []int{2, 3}, Cells: []int{1, 2, 3, 6, 4, 5, 6, 15, 5, 7, 9, 21}}
	margin, ok := impl.MarginOf(c, []int{0})
	expectCube(t, "MarginOf 0", margin, ok, impl.Cube{Sizes: []int{2}, Cells: []int{6, 15, 21}}, true)
	margin, ok = impl.MarginOf(c, []int{1})
	expectCube(t, "MarginOf 1", margin, ok, impl.Cube{Sizes: []int{3}, Cells: []int{5, 7, 9, 21}}, true)
	margin, ok = impl.MarginOf(c, nil)
	expectCube(t, "MarginOf none", margin, ok, impl.Cube{Cells: []int{21}}, true)
	margin, ok = impl.MarginOf(c, []int{0, 1})
	expectCube(t, "MarginOf all", margin, ok, c, true)
	cut, ok := impl.SliceOf(c, 0, 1)
	expectCube(t, "SliceOf 0 1", cut, ok, impl.Cube{Sizes: []int{3}, Cells: []int{4, 5, 6, 15}}, true)
	cut, ok = impl.SliceOf(c, 1, 0)
	expectCube(t, "SliceOf 1 0", cut, ok, impl.Cube{Sizes: []int{2}, Cells: []int{1, 4, 5}}, true)
	cut, ok = impl.SliceOf(c, 1, 3)
	expectCube(t, "SliceOf 1 3", cut, ok, impl.Cube{Sizes: []int{2}, Cells: []int{6, 15, 21}}, true)
	joined, ok := impl.GroupCube(c, 1, []int{1, 0, 1})
	expectCube(t, "GroupCube", joined, ok, impl.Cube{Sizes: []int{2, 2}, Cells: []int{2, 4, 6, 5, 10, 15, 7, 14, 21}}, true)
	less, ok := impl.DifferenceOf(c, joined)
	expectCube(t, "DifferenceOf other sizes", less, ok, impl.Cube{}, false)
	less, ok = impl.DifferenceOf(joined, impl.Cube{Sizes: []int{2, 2}, Cells: []int{1, 1, 2, 1, 1, 2, 2, 2, 4}})
	expectCube(t, "DifferenceOf", less, ok, impl.Cube{Sizes: []int{2, 2}, Cells: []int{1, 3, 4, 4, 9, 13, 5, 12, 17}}, true)
}

// TestSliceOfTheOnlyDimension leaves no dimension.
func TestSliceOfTheOnlyDimension(t *testing.T) {
	c := impl.Cube{Sizes: []int{3}, Cells: []int{4, -5, 6, 5}}
	for i, n := range c.Cells {
		cut, ok := impl.SliceOf(c, 0, i)
		expectCube(t, fmt.Sprint("SliceOf ", i), cut, ok, impl.Cube{Cells: []int{n}}, true)
	}
}

func TestCutsOfManyCubes(t *testing.T) {
	r := rand.New(rand.NewSource(1010))
	for range 2 {
		for _, sizes := range cutSizes() {
			for _, c := range []impl.Cube{randomCube(r, sizes), countingCube(sizes...)} {
				checkMargins(t, c)
				for dim := range sizes {
					checkSlices(t, c, dim)
				}
			}
		}
	}
}

func TestCutsOfLargeCubes(t *testing.T) {
	r := rand.New(rand.NewSource(1011))
	for _, sizes := range largeSizes() {
		c := randomCube(r, sizes)
		sets := setsOfVariables(len(sizes))
		for _, dims := range [][]int{nil, sets[len(sets)-1], sets[r.Intn(len(sets))]} {
			margin, ok := impl.MarginOf(c, dims)
			expectCube(t, fmt.Sprint("MarginOf ", sizes, dims), margin, ok, marginOf(c, dims), true)
		}
		for dim, size := range sizes {
			for _, i := range []int{0, size - 1, size, r.Intn(size)} {
				cut, ok := impl.SliceOf(c, dim, i)
				expectCube(t, fmt.Sprint("SliceOf ", sizes, dim, i), cut, ok, sliceOf(c, dim, i), true)
			}
		}
	}
}

// TestMarginsOfMargins have the same cells as the margin of fewer dimensions.
func TestMarginsOfMargins(t *testing.T) {
	r := rand.New(rand.NewSource(1012))
	for _, sizes := range cutSizes() {
		c := randomCube(r, sizes)
		for _, dims := range setsOfVariables(len(sizes)) {
			margin, _ := impl.MarginOf(c, dims)
			for _, kept := range setsOfVariables(len(dims)) {
				var both []int
				for _, k := range kept {
					both = append(both, dims[k])
				}
				again, ok := impl.MarginOf(margin, kept)
				expectCube(t, "a margin of a margin", again, ok, marginOf(c, both), true)
			}
		}
	}
}

func TestMarginOfRefusesDimensions(t *testing.T) {
	for _, sizes := range [][]int{{1}, {3}, {2, 3}, {3, 2, 1}, {1, 2, 1, 2}} {
		for _, dims := range append(wrongListsOfVariables(make([]impl.Variable, len(sizes))), []int{0, 1, 2, 3, 4}, []int{4}) {
			margin, ok := impl.MarginOf(countingCube(sizes...), dims)
			expectCube(t, fmt.Sprintf("MarginOf %v %.200s", sizes, fmt.Sprint(dims)), margin, ok, impl.Cube{}, false)
		}
	}
	for _, dims := range [][]int{{0}, {1}, {-1}, {0, 0}, {math.MaxInt}, {math.MinInt}, make([]int, 1000)} {
		margin, ok := impl.MarginOf(countingCube(), dims)
		expectCube(t, fmt.Sprintf("MarginOf no dimensions %.200s", fmt.Sprint(dims)), margin, ok, impl.Cube{}, false)
	}
}

func TestSliceOfRefusesNumbers(t *testing.T) {
	for _, sizes := range [][]int{{}, {1}, {3}, {2, 3}, {3, 2, 1}, {1, 2, 1, 2}, {30, 30}} {
		c := countingCube(sizes...)
		for _, dim := range append(wrongVariables(make([]impl.Variable, len(sizes))), 3, 4) {
			if dim >= 0 && dim < len(sizes) || dim == 0 && len(sizes) > 0 {
				continue
			}
			for _, i := range []int{0, 1, -1, math.MaxInt, math.MinInt} {
				cut, ok := impl.SliceOf(c, dim, i)
				expectCube(t, fmt.Sprint("SliceOf ", sizes, dim, i), cut, ok, impl.Cube{}, false)
			}
			joined, ok := impl.GroupCube(c, dim, []int{0})
			expectCube(t, fmt.Sprint("GroupCube ", sizes, dim), joined, ok, impl.Cube{}, false)
		}
		for dim, size := range sizes {
			for _, i := range []int{-1, -2, -size, -size - 1, size + 1, size + 2, 2*size + 2, 31, 1 << 32, 1<<32 + 1, math.MaxInt, math.MinInt, math.MinInt + 1} {
				if i >= 0 && i <= size {
					continue
				}
				cut, ok := impl.SliceOf(c, dim, i)
				expectCube(t, fmt.Sprint("SliceOf ", sizes, dim, i), cut, ok, impl.Cube{}, false)
			}
		}
	}
}

// TestGroupCubeOnAllNumbers has all numbers in -1..size for small sizes, so that
// groups come in all orders, and too few and too many of them.
func TestGroupCubeOnAllNumbers(t *testing.T) {
	r := rand.New(rand.NewSource(1013))
	for _, sizes := range [][]int{{1}, {2}, {3}, {4}, {2, 1}, {1, 3}, {3, 2}, {2, 3, 1}, {1, 2, 2, 2}} {
		c := randomCube(r, sizes)
		for dim, size := range sizes {
			for count := range size + 2 {
				for _, groups := range allNumbers(count, -1, min(size, count)) {
					checkGroups(t, c, dim, groups)
				}
			}
		}
	}
}

func TestGroupCubeOfLargeSizes(t *testing.T) {
	r := rand.New(rand.NewSource(1014))
	for _, sizes := range largeSizes() {
		c := randomCube(r, sizes)
		for dim, size := range sizes {
			one, all, random := make([]int, size), make([]int, size), make([]int, size)
			for k := range all {
				all[k], random[k] = k, r.Intn(2)
			}
			back, hole, pairs := slices.Clone(all), slices.Clone(all), slices.Clone(all)
			slices.Reverse(back)
			for k := range pairs {
				pairs[k] /= 2
				hole[k] += 1 - min(k, 1)
			}
			for _, groups := range [][]int{one, all, back, hole, pairs, random, all[1:], append(slices.Clone(one), 0)} {
				checkGroups(t, c, dim, groups)
			}
		}
	}
}

// TestGroupCubeRefusesNumbers has one wrong number among good ones.
func TestGroupCubeRefusesNumbers(t *testing.T) {
	for _, sizes := range [][]int{{1}, {3}, {2, 3}, {30}, {1, 2, 1, 2}} {
		c := countingCube(sizes...)
		for dim, size := range sizes {
			for _, x := range []int{-1, -2, -size, size, size + 1, 30, 31, 64, 1 << 32, 1<<32 + 1, math.MaxInt, math.MaxInt - 1, math.MinInt, math.MinInt + 1} {
				for place := range size {
					groups := make([]int, size)
					groups[place] = x
					checkGroups(t, c, dim, groups)
				}
			}
			for _, groups := range [][]int{nil, make([]int, 31), make([]int, 1000)} {
				joined, ok := impl.GroupCube(c, dim, groups)
				expectCube(t, fmt.Sprintf("GroupCube %v %d %.200s", sizes, dim, fmt.Sprint(groups)), joined, ok, impl.Cube{}, false)
			}
		}
	}
}

// TestGroupCubeKeepsTheLimit joins cells whose sum is out of range, though the
// total is not.
func TestGroupCubeKeepsTheLimit(t *testing.T) {
	for _, base := range [][]int{{1000000, 0, -1}, {1000000, 1, -1}, {1000000, 1, -2}, {-1000000, -1, 1}, {1, 1000000, -1000000}, {600000, -1000000, 400001}, {400000, -1000000, 600000}} {
		c, ok := cubeOfBase([]int{3}, base)
		if !ok {
			continue
		}
		for _, groups := range allNumbers(3, 0, 2) {
			checkGroups(t, c, 0, groups)
		}
	}
	c, ok := cubeOfBase([]int{3, 2}, []int{1000000, -1000000, 1000000, -1000000, -1000000, 1000000})
	if !ok {
		t.Fatal("no cube")
	}
	for _, groups := range allNumbers(3, 0, 2) {
		checkGroups(t, c, 0, groups)
	}
	checkGroups(t, c, 1, []int{0, 0})
}

func TestDifferencesOfManyCubes(t *testing.T) {
	r := rand.New(rand.NewSource(1015))
	sizes := append(smallSizes(2), []int{3}, []int{5}, []int{3, 4}, []int{4, 3}, []int{2, 3}, []int{3, 2}, []int{1, 5})
	for _, x := range sizes {
		a := randomCube(r, x)
		checkDifference(t, a, a)
		for _, y := range sizes {
			checkDifference(t, a, randomCube(r, y))
		}
		for range 4 {
			checkDifference(t, randomCube(r, x), randomCube(r, x))
		}
	}
	for _, x := range largeSizes() {
		a, b := randomCube(r, x), randomCube(r, x)
		checkDifference(t, a, b)
		checkDifference(t, b, a)
		checkDifference(t, a, a)
	}
}

// TestDifferenceOfKeepsTheLimit has base cells or totals whose differences are
// as great as they may be, or greater by 1.
func TestDifferenceOfKeepsTheLimit(t *testing.T) {
	numbers := []int{-1000000, -999999, -500001, -500000, -499999, -1, 0, 1, 499999, 500000, 500001, 999999, 1000000}
	for _, x := range numbers {
		for _, y := range numbers {
			checkDifference(t, impl.Cube{Cells: []int{x}}, impl.Cube{Cells: []int{y}})
			a, _ := cubeOfBase([]int{2}, []int{x - x/3, x / 3})
			b, _ := cubeOfBase([]int{2}, []int{y / 3, y - y/3})
			checkDifference(t, a, b)
			a, _ = cubeOfBase([]int{1, 2}, []int{x, -x})
			b, _ = cubeOfBase([]int{1, 2}, []int{y, -y})
			checkDifference(t, a, b)
		}
	}
}

// TestDifferencesAddUp adds a difference by taking away its opposite.
func TestDifferencesAddUp(t *testing.T) {
	r := rand.New(rand.NewSource(1016))
	for _, sizes := range cutSizes() {
		base := make([]int, len(baseIndicesOf(sizes)))
		for i := range base {
			base[i] = r.Intn(2001) - 1000
		}
		a, b := countingCube(sizes...), impl.Cube{}
		b, _ = impl.CubeOf(sizes, base)
		less, _ := impl.DifferenceOf(b, a)
		back, ok := impl.DifferenceOf(b, less)
		expectCube(t, "a difference taken away", back, ok, a, true)
	}
}
