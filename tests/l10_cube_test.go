package tests

import (
	"fmt"
	"math"
	"math/rand"
	"slices"
	"testing"

	"loop.example/g00908/impl"
)

// checkForm asks whether a cube is one, and for its first break.
func checkForm(t *testing.T, c impl.Cube) {
	t.Helper()
	good, want := formIsGood(c), 0
	if good {
		want = breakOf(c)
	}
	if is := impl.IsCube(c); is != (good && want == len(c.Cells)) {
		t.Errorf("IsCube %.300s is %v", fmt.Sprint(c), is)
	}
	i, ok := impl.FirstBreak(c)
	expectInt(t, fmt.Sprintf("FirstBreak %.300s", fmt.Sprint(c)), i, ok, want, good)
}

// checkCubeOf builds a cube, which must be valid and yield its base cells.
func checkCubeOf(t *testing.T, sizes, base []int) {
	t.Helper()
	call := fmt.Sprintf("%.200s", fmt.Sprint(sizes, base))
	want, wantOK := cubeOfBase(sizes, base)
	c, ok := impl.CubeOf(sizes, base)
	expectCube(t, "CubeOf "+call, c, ok, want, wantOK)
	if !ok {
		return
	}
	checkForm(t, c)
	back, ok := impl.BaseOf(c)
	expectInts(t, "BaseOf the cube of "+call, back, ok, base, true)
	again, ok := impl.CubeOf(c.Sizes, back)
	expectCube(t, "CubeOf what BaseOf returns "+call, again, ok, c, true)
}

// checkCells asks for all cells of a valid cube.
func checkCells(t *testing.T, c impl.Cube) {
	t.Helper()
	for i, index := range indicesOf(c.Sizes) {
		n, ok := impl.CubeCell(c, index)
		expectInt(t, fmt.Sprintf("CubeCell %v of %.200s", index, fmt.Sprint(c)), n, ok, c.Cells[i], true)
	}
}

// refusesCube calls all functions with a cube that is not valid.
func refusesCube(t *testing.T, c impl.Cube) {
	t.Helper()
	call := fmt.Sprintf("%.200s", fmt.Sprint(c))
	checkForm(t, c)
	base, ok := impl.BaseOf(c)
	expectInts(t, "BaseOf "+call, base, ok, nil, false)
	dims, index := []int{}, make([]int, min(len(c.Sizes), 6))
	for d := range index {
		dims = append(dims, d)
	}
	for _, l := range [][]int{nil, {0}, index} {
		n, ok := impl.CubeCell(c, l)
		expectInt(t, "CubeCell "+call, n, ok, 0, false)
	}
	for _, l := range [][]int{nil, {0}, dims} {
		margin, ok := impl.MarginOf(c, l)
		expectCube(t, "MarginOf "+call, margin, ok, impl.Cube{}, false)
	}
	for _, i := range []int{-1, 0, 1} {
		cut, ok := impl.SliceOf(c, 0, i)
		expectCube(t, "SliceOf "+call, cut, ok, impl.Cube{}, false)
	}
	for _, groups := range [][]int{nil, {0}, {0, 1}, {0, 0}} {
		joined, ok := impl.GroupCube(c, 0, groups)
		expectCube(t, "GroupCube "+call, joined, ok, impl.Cube{}, false)
	}
	same := impl.Cube{Sizes: slices.Clone(c.Sizes), Cells: make([]int, len(c.Cells))}
	for _, other := range []impl.Cube{c, same, {}, {Cells: []int{0}}} {
		for _, pair := range [][2]impl.Cube{{c, other}, {other, c}} {
			difference, ok := impl.DifferenceOf(pair[0], pair[1])
			expectCube(t, "DifferenceOf "+call, difference, ok, impl.Cube{}, false)
		}
	}
}

func TestCubeExamples(t *testing.T) {
	c, ok := impl.CubeOf([]int{2}, []int{3, 4})
	expectCube(t, "CubeOf", c, ok, impl.Cube{Sizes: []int{2}, Cells: []int{3, 4, 7}}, true)
	square := impl.Cube{Sizes: []int{2, 3}, Cells: []int{1, 2, 3, 6, 4, 5, 6, 15, 5, 7, 9, 21}}
	c, ok = impl.CubeOf([]int{2, 3}, []int{1, 2, 3, 4, 5, 6})
	expectCube(t, "CubeOf two dimensions", c, ok, square, true)
	base, ok := impl.BaseOf(square)
	expectInts(t, "BaseOf", base, ok, []int{1, 2, 3, 4, 5, 6}, true)
	for index, want := range map[[2]int]int{{0, 0}: 1, {1, 2}: 6, {0, 3}: 6, {2, 1}: 7, {2, 3}: 21} {
		n, ok := impl.CubeCell(square, index[:])
		expectInt(t, fmt.Sprint("CubeCell ", index), n, ok, want, true)
	}
	if !impl.IsCube(square) {
		t.Error("IsCube of a good cube")
	}
}

// TestCubeWithoutDimensions has one cell, which is a base cell.
func TestCubeWithoutDimensions(t *testing.T) {
	for _, n := range []int{0, 1, -1, 1000000, -1000000} {
		want := impl.Cube{Cells: []int{n}}
		for _, none := range [][]int{nil, {}} {
			c, ok := impl.CubeOf(none, []int{n})
			expectCube(t, "CubeOf no sizes", c, ok, want, true)
			c, ok = impl.MarginOf(want, none)
			expectCube(t, "MarginOf no dimensions", c, ok, want, true)
			cell, ok := impl.CubeCell(want, none)
			expectInt(t, "CubeCell of no indices", cell, ok, n, true)
		}
		base, ok := impl.BaseOf(want)
		expectInts(t, "BaseOf one cell", base, ok, []int{n}, true)
		i, ok := impl.FirstBreak(want)
		expectInt(t, "FirstBreak of one cell", i, ok, 1, true)
		c, ok := impl.DifferenceOf(want, impl.Cube{Cells: []int{0}})
		expectCube(t, "DifferenceOf two cells", c, ok, want, true)
		c, ok = impl.SliceOf(want, 0, 0)
		expectCube(t, "SliceOf no dimension", c, ok, impl.Cube{}, false)
		c, ok = impl.GroupCube(want, 0, nil)
		expectCube(t, "GroupCube of no dimension", c, ok, impl.Cube{}, false)
		if !impl.IsCube(want) {
			t.Error("IsCube of one cell", n)
		}
	}
	for _, base := range [][]int{nil, {}, {1, 1}, {1000001}, {-1000001}, {math.MaxInt}, {math.MinInt}} {
		c, ok := impl.CubeOf(nil, base)
		expectCube(t, fmt.Sprint("CubeOf ", base), c, ok, impl.Cube{}, false)
	}
}

// TestIsCubeOnAllShortCubes has all cells in -1..1.
func TestIsCubeOnAllShortCubes(t *testing.T) {
	for _, sizes := range [][]int{{}, {1}, {2}, {3}, {1, 1}, {2, 1}, {1, 2}} {
		for count := range len(indicesOf(sizes)) + 2 {
			for _, cells := range allNumbers(count, -1, 1) {
				checkForm(t, impl.Cube{Sizes: sizes, Cells: cells})
			}
		}
	}
	for _, cells := range allNumbers(8, 0, 1) {
		checkForm(t, impl.Cube{Sizes: []int{1, 1, 1}, Cells: cells})
	}
}

// TestFirstBreakFindsEachCell changes each cell of good cubes, and pairs of
// them.
func TestFirstBreakFindsEachCell(t *testing.T) {
	r := rand.New(rand.NewSource(1001))
	for _, sizes := range append(smallSizes(2), []int{5}, []int{3, 4}, []int{4, 1, 3}) {
		c := randomCube(r, sizes)
		for i, n := range c.Cells {
			for _, x := range []int{n + 1, n - 1, -n, 0, 1000000, -1000000} {
				broken := impl.Cube{Sizes: sizes, Cells: slices.Clone(c.Cells)}
				broken.Cells[i] = x
				checkForm(t, broken)
				k := r.Intn(len(c.Cells))
				broken.Cells[k]--
				checkForm(t, broken)
			}
		}
	}
	for _, sizes := range largeSizes() {
		c := randomCube(r, sizes)
		for _, i := range []int{0, len(c.Cells) / 2, len(c.Cells) - 1, r.Intn(len(c.Cells))} {
			broken := impl.Cube{Sizes: sizes, Cells: slices.Clone(c.Cells)}
			broken.Cells[i] += 1 - 2*sign(broken.Cells[i])
			checkForm(t, broken)
		}
	}
}

// TestFirstBreakInOneDimension has cubes that are sums in the other dimensions.
func TestFirstBreakInOneDimension(t *testing.T) {
	for want, c := range map[int]impl.Cube{
		0:  {Sizes: []int{2}, Cells: []int{3, 4, 7}},
		2:  {Sizes: []int{2, 2}, Cells: []int{1, 2, 4, 3, 4, 6, 4, 6, 10}},
		6:  {Sizes: []int{2, 2}, Cells: []int{1, 2, 3, 3, 4, 7, 5, 5, 10}},
		8:  {Sizes: []int{2, 2}, Cells: []int{1, 2, 3, 3, 4, 7, 4, 6, 11}},
		1:  {Sizes: []int{1}, Cells: []int{1, 2}},
		3:  {Sizes: []int{1, 1, 1}, Cells: []int{1, 1, 1, 0, 1, 1, 1, 0}},
		4:  {Sizes: []int{1, 1, 1}, Cells: []int{1, 1, 1, 1, 0, 0, 0, 0}},
		5:  {Sizes: []int{1, 1, 1}, Cells: []int{1, 1, 1, 1, 1, 0, 1, 1}},
		7:  {Sizes: []int{1, 1, 1}, Cells: []int{1, 1, 1, 1, 1, 1, 1, 0}},
		15: {Sizes: []int{1, 1, 1, 1}, Cells: slices.Concat(slices.Repeat([]int{1}, 15), []int{2})},
	} {
		if want == 0 {
			want = len(c.Cells)
		}
		i, ok := impl.FirstBreak(c)
		expectInt(t, fmt.Sprint("FirstBreak ", c), i, ok, want, true)
		checkForm(t, c)
	}
}

func TestIsCubeOnRandomCells(t *testing.T) {
	r := rand.New(rand.NewSource(1002))
	for range 300 {
		for _, sizes := range [][]int{{1}, {3}, {2, 2}, {1, 2, 2}, {1, 1, 2, 1}} {
			checkForm(t, impl.Cube{Sizes: sizes, Cells: randomNumbers(r, len(indicesOf(sizes)))})
		}
	}
}

func TestCubeOfAllSmallBases(t *testing.T) {
	for _, sizes := range [][]int{{}, {1}, {2}, {4}, {1, 1}, {2, 2}, {1, 3}, {3, 1}, {1, 1, 1}, {1, 2, 2}, {2, 1, 1, 2}} {
		for _, base := range allNumbers(len(baseIndicesOf(sizes)), -1, 2) {
			checkCubeOf(t, sizes, base)
		}
	}
}

func TestCubeOfRandomBases(t *testing.T) {
	r := rand.New(rand.NewSource(1003))
	for range 2 {
		for _, sizes := range append(smallSizes(3), largeSizes()...) {
			base := randomBase(r, sizes)
			checkCubeOf(t, sizes, base)
			for _, wrong := range [][]int{nil, base[1:], append(slices.Clone(base), 0), append(slices.Clone(base), base...), make([]int, len(indicesOf(sizes)))} {
				checkCubeOf(t, sizes, wrong)
			}
		}
	}
}

// TestCubeOfKeepsTotalsWithinTheLimit has bases whose cells are all in range, and
// bases whose sums are no longer out of range, as they cancel or overflow.
func TestCubeOfKeepsTotalsWithinTheLimit(t *testing.T) {
	const most = 1000000
	for _, c := range []impl.Cube{
		{Sizes: []int{2}, Cells: []int{most, 0}}, {Sizes: []int{2}, Cells: []int{most, 1}}, {Sizes: []int{2}, Cells: []int{most, -1}}, {Sizes: []int{2}, Cells: []int{-most, -1}},
		{Sizes: []int{2}, Cells: []int{most + 1, -1}}, {Sizes: []int{2}, Cells: []int{-1, most + 1}}, {Sizes: []int{2}, Cells: []int{-most - 1, 1}}, {Sizes: []int{1}, Cells: []int{most + 1}},
		{Sizes: []int{3}, Cells: []int{most, most, -most}}, {Sizes: []int{3}, Cells: []int{-most, -most, most}}, {Sizes: []int{3}, Cells: []int{most, most, -most + 1}},
		{Sizes: []int{2, 2}, Cells: []int{most, 0, 0, 0}}, {Sizes: []int{2, 2}, Cells: []int{most, 0, 0, 1}}, {Sizes: []int{2, 2}, Cells: []int{most, 1, -1, -1}}, {Sizes: []int{2, 2}, Cells: []int{most, -1, 1, -1}},
		{Sizes: []int{2, 2}, Cells: []int{-1, 1, -1, most}}, {Sizes: []int{2, 2}, Cells: []int{most, -most, -most, most}}, {Sizes: []int{2, 2}, Cells: []int{most, -most, most, -most}}, {Sizes: []int{2, 2}, Cells: []int{most, most, -most, -most}},
		{Sizes: []int{30, 30}, Cells: slices.Repeat([]int{most / 900}, 900)}, {Sizes: []int{30, 30}, Cells: slices.Repeat([]int{most/900 + 1}, 900)}, {Sizes: []int{30, 30}, Cells: slices.Repeat([]int{most}, 900)},
		{Sizes: []int{19, 9, 9}, Cells: slices.Repeat([]int{most}, 1539)}, {Sizes: []int{2}, Cells: []int{math.MaxInt, math.MinInt}}, {Sizes: []int{2}, Cells: []int{math.MinInt, math.MinInt}},
		{Sizes: []int{4}, Cells: slices.Repeat([]int{1 << 62}, 4)}, {Sizes: []int{2, 2}, Cells: slices.Repeat([]int{1 << 62}, 4)}, {Sizes: []int{2, 2}, Cells: slices.Repeat([]int{math.MinInt}, 4)}, {Sizes: []int{3}, Cells: []int{math.MaxInt, math.MinInt, 1}},
	} {
		checkCubeOf(t, c.Sizes, c.Cells)
	}
	r := rand.New(rand.NewSource(1004))
	for range 2000 {
		checkCubeOf(t, []int{2}, randomNumbers(r, 2))
		checkCubeOf(t, []int{2, 2}, randomNumbers(r, 4))
		checkCubeOf(t, []int{1, 3}, randomNumbers(r, 3))
	}
}

func TestCubeOfRefusesSizes(t *testing.T) {
	for _, sizes := range wrongSizes() {
		count := 1
		for _, size := range sizes {
			count = min(3000, count*max(0, min(size, 3000)))
		}
		for _, n := range []int{0, 1, 2, count} {
			c, ok := impl.CubeOf(sizes, make([]int, n))
			expectCube(t, fmt.Sprint("CubeOf ", sizes, n), c, ok, impl.Cube{}, false)
		}
	}
}

// TestFunctionsRefuseWrongCubes has cubes that are broken, too.
func TestFunctionsRefuseWrongCubes(t *testing.T) {
	for _, c := range wrongCubes() {
		refusesCube(t, c)
	}
}

func TestCubeCellsOfManyCubes(t *testing.T) {
	r := rand.New(rand.NewSource(1005))
	for _, sizes := range append(smallSizes(2), []int{3, 4}, []int{4, 3, 1}, []int{30}, []int{1, 30}) {
		checkCells(t, randomCube(r, sizes))
	}
	for _, sizes := range largeSizes() {
		c, indices := randomCube(r, sizes), indicesOf(sizes)
		for range 20 {
			i := r.Intn(len(indices))
			n, ok := impl.CubeCell(c, indices[i])
			expectInt(t, fmt.Sprint("CubeCell ", sizes, indices[i]), n, ok, c.Cells[i], true)
		}
	}
}

func TestCubeCellRefusesIndices(t *testing.T) {
	for _, sizes := range [][]int{{}, {1}, {3}, {2, 3}, {3, 2, 1}, {1, 2, 1, 2}} {
		c := countingCube(sizes...)
		wrong := [][]int{append(slices.Clone(sizes), 0), append([]int{0}, sizes...), make([]int, 5), make([]int, 1000)}
		for d, size := range sizes {
			wrong = append(wrong, slices.Delete(slices.Clone(sizes), d, d+1))
			for _, x := range []int{-1, -2, -size, -size - 1, size + 1, size + 2, 2*size + 1, 2*size + 2, 31, 1 << 32, 1<<32 + size, math.MaxInt, math.MinInt, math.MinInt + 1} {
				for _, good := range [][]int{sizes, make([]int, len(sizes))} {
					bad := slices.Clone(good)
					bad[d] = x
					wrong = append(wrong, bad)
				}
			}
		}
		if len(sizes) > 0 {
			wrong = append(wrong, nil, []int{})
		}
		for _, index := range wrong {
			n, ok := impl.CubeCell(c, index)
			expectInt(t, fmt.Sprint("CubeCell ", sizes, index), n, ok, 0, false)
		}
	}
}
