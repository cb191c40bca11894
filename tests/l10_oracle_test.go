package tests

import (
	"fmt"
	"math"
	"math/rand"
	"slices"
	"testing"

	"loop.example/g00908/impl"
)

// indicesOf returns the indices of all cells of a cube, totals included.
func indicesOf(sizes []int) [][]int {
	lists := [][]int{{}}
	for _, size := range sizes {
		var longer [][]int
		for _, l := range lists {
			for x := range size + 1 {
				longer = append(longer, append(slices.Clone(l), x))
			}
		}
		lists = longer
	}
	return lists
}

// isBase says whether an index has no total.
func isBase(sizes, index []int) bool {
	for d, size := range sizes {
		if index[d] == size {
			return false
		}
	}
	return true
}

// baseIndicesOf returns the indices of the base cells.
func baseIndicesOf(sizes []int) [][]int {
	return slices.DeleteFunc(indicesOf(sizes), func(index []int) bool { return !isBase(sizes, index) })
}

// sizesAreGood says whether there is a cube with the sizes.
func sizesAreGood(sizes []int) bool {
	if len(sizes) > 4 {
		return false
	}
	cells := 1
	for _, size := range sizes {
		if size < 1 || size > 30 {
			return false
		}
		cells += cells * size
	}
	return cells < 2001
}

// partsOfCell says what PartsOf must return: for each dimension with a total
// the cells whose indices differ from those of cell i there alone.
func partsOfCell(sizes []int, i int) [][]int {
	var lists [][]int
	indices := indicesOf(sizes)
	for d, size := range sizes {
		if indices[i][d] < size {
			continue
		}
		var parts []int
		for j, other := range indices {
			if j != i && slices.Equal(indices[i][:d], other[:d]) && slices.Equal(indices[i][d+1:], other[d+1:]) {
				parts = append(parts, j)
			}
		}
		lists = append(lists, parts)
	}
	return lists
}

// tabled is a cube of right form whose cells are found by the text of their
// indices.
type tabled struct {
	c       impl.Cube
	indices [][]int
	cells   map[string]int
}

func newTabled(c impl.Cube) tabled {
	p := tabled{c: c, indices: indicesOf(c.Sizes), cells: map[string]int{}}
	for i, index := range p.indices {
		p.cells[fmt.Sprint(index)] = c.Cells[i]
	}
	return p
}

func (p tabled) at(index []int) int { return p.cells[fmt.Sprint(index)] }

// formIsGood says whether a cube has right form.
func formIsGood(c impl.Cube) bool {
	good := sizesAreGood(c.Sizes) && len(c.Cells) == len(indicesOf(c.Sizes))
	for _, n := range c.Cells {
		good = good && -1000001 < n && n < 1000001
	}
	return good
}

// breakOf says what FirstBreak must return for a cube of right form.
func breakOf(c impl.Cube) int {
	p := newTabled(c)
	for i, index := range p.indices {
		for d, size := range c.Sizes {
			sum, other := 0, slices.Clone(index)
			for x := range size {
				other[d] = x
				sum += p.at(other)
			}
			if index[d] == size && sum != c.Cells[i] {
				return i
			}
		}
	}
	return len(c.Cells)
}

// cubeIsGood says what IsCube must say.
func cubeIsGood(c impl.Cube) bool {
	return formIsGood(c) && breakOf(c) == len(c.Cells)
}

// cubeOfBase says what CubeOf must return: each base cell is added to all cells
// that have its indices or totals.
func cubeOfBase(sizes, base []int) (impl.Cube, bool) {
	if !sizesAreGood(sizes) || len(base) != len(baseIndicesOf(sizes)) {
		return impl.Cube{}, false
	}
	for _, n := range base {
		if n < -1000000 || n > 1000000 {
			return impl.Cube{}, false
		}
	}
	sums := map[string]int{}
	for b, index := range baseIndicesOf(sizes) {
		for _, totals := range setsOfVariables(len(sizes)) {
			covers := slices.Clone(index)
			for _, d := range totals {
				covers[d] = sizes[d]
			}
			sums[fmt.Sprint(covers)] += base[b]
		}
	}
	c := impl.Cube{Sizes: slices.Clone(sizes)}
	for _, index := range indicesOf(sizes) {
		c.Cells = append(c.Cells, sums[fmt.Sprint(index)])
	}
	if !formIsGood(c) {
		return impl.Cube{}, false
	}
	return c, true
}

// baseOf says what BaseOf must return.
func baseOf(c impl.Cube) []int {
	var base []int
	p := newTabled(c)
	for _, index := range baseIndicesOf(c.Sizes) {
		base = append(base, p.at(index))
	}
	return base
}

// marginOf says what MarginOf must return: the cells of the other cube are
// sought, with totals in the other dimensions.
func marginOf(c impl.Cube, dims []int) impl.Cube {
	var margin impl.Cube
	p := newTabled(c)
	for _, d := range dims {
		margin.Sizes = append(margin.Sizes, c.Sizes[d])
	}
	for _, index := range indicesOf(margin.Sizes) {
		far := slices.Clone(c.Sizes)
		for k, d := range dims {
			far[d] = index[k]
		}
		margin.Cells = append(margin.Cells, p.at(far))
	}
	return margin
}

// sliceOf says what SliceOf must return.
func sliceOf(c impl.Cube, dim, i int) impl.Cube {
	cut := impl.Cube{Sizes: slices.Delete(slices.Clone(c.Sizes), dim, dim+1)}
	p := newTabled(c)
	for _, index := range indicesOf(cut.Sizes) {
		cut.Cells = append(cut.Cells, p.at(slices.Insert(index, dim, i)))
	}
	return cut
}

// joinIsGood says whether numbers are groups of a dimension.
func joinIsGood(groups []int) bool {
	used := slices.Compact(slices.Sorted(slices.Values(groups)))
	for i, group := range used {
		if group != i {
			return false
		}
	}
	return true
}

// joinedOf says what GroupCube must return for good groups: the base cells of
// each group are added.
func joinedOf(c impl.Cube, dim int, groups []int) (impl.Cube, bool) {
	sizes := slices.Clone(c.Sizes)
	sizes[dim] = slices.Max(groups) + 1
	p := newTabled(c)
	var base []int
	for _, index := range baseIndicesOf(sizes) {
		sum := 0
		for k, group := range groups {
			if group == index[dim] {
				from := slices.Clone(index)
				from[dim] = k
				sum += p.at(from)
			}
		}
		base = append(base, sum)
	}
	return cubeOfBase(sizes, base)
}

// differenceOf says what DifferenceOf must return for two valid cubes.
func differenceOf(a, b impl.Cube) (impl.Cube, bool) {
	if !slices.Equal(a.Sizes, b.Sizes) {
		return impl.Cube{}, false
	}
	c := impl.Cube{Sizes: a.Sizes}
	for i := range a.Cells {
		c.Cells = append(c.Cells, a.Cells[i]-b.Cells[i])
	}
	if !formIsGood(c) {
		return impl.Cube{}, false
	}
	return c, true
}

// sizesOf says which sizes the cube of a table has.
func (p tabulation) sizesOf() []int {
	sizes := []int{len(levelOf(p.g, p.u.Level))}
	for _, v := range p.u.Vars {
		sizes = append(sizes, p.s[v].Levels)
	}
	return sizes
}

// smallSizes returns all lists of up to 4 sizes of which none is greater than
// the greatest.
func smallSizes(greatest int) [][]int {
	var l [][]int
	for dims := range 5 {
		l = append(l, allNumbers(dims, 1, greatest)...)
	}
	return l
}

// largeSizes have sizes of 30, or as many cells as a cube can have or nearly so.
func largeSizes() [][]int {
	return [][]int{
		{30}, {1, 30}, {30, 1}, {30, 30}, {1, 30, 30}, {30, 1, 30}, {30, 30, 1}, {30, 7, 7}, {7, 7, 30}, {1, 1, 1, 30}, {30, 1, 1, 1}, {30, 2, 2, 2}, {2, 2, 2, 30},
		{19, 9, 9}, {9, 9, 19}, {24, 19, 3}, {3, 24, 19}, {1, 9, 9, 9}, {9, 9, 9, 1}, {9, 1, 9, 9}, {4, 4, 7, 9}, {9, 7, 4, 4}, {2, 4, 6, 18}, {5, 5, 5, 8}, {7, 24, 9},
	}
}

// wrongSizes are no sizes of a cube. Some have too many cells, and some a
// product that is no int, or 0 or another small number if it is.
func wrongSizes() [][]int {
	l := [][]int{
		{1, 1, 1, 1, 1}, {2, 3, 1, 1, 1}, {30, 30, 30, 30, 30}, {1, 1, 1, 1, 1, 1}, slices.Repeat([]int{1}, 64), slices.Repeat([]int{-1}, 5), make([]int, 1000), {0, 0, 0, 0, 0},
		{2, 22, 28}, {28, 22, 2}, {1, 6, 10, 12}, {12, 10, 6, 1}, {30, 30, 2}, {2, 30, 30}, {30, 30, 30}, {30, 30, 30, 30}, {1, 1, 30, 30}, {30, 1, 1, 30}, {6, 6, 6, 6}, {5, 5, 5, 9}, {9, 9, 20}, {1, 9, 9, 10},
		{-2, -2}, {-2, -3}, {-1, 5}, {-1, -1}, {-3, -3, 4}, {1<<32 - 1, 1<<32 - 1}, {1<<31 - 1, 1<<31 - 1, 3}, {1<<16 - 1, 1<<16 - 1, 1<<16 - 1, 1<<16 - 1}, {1<<62 - 1, 3}, {1<<62 - 1, 3, 2}, {1 << 31, 1 << 31},
		{math.MaxInt, math.MaxInt}, {math.MaxInt, math.MaxInt, math.MaxInt, math.MaxInt}, {math.MinInt, math.MinInt}, {math.MinInt, 1}, {math.MaxInt, 1}, {math.MaxInt - 1, math.MaxInt - 1},
	}
	for _, size := range []int{0, -1, -2, -3, -30, -31, 31, 32, 60, 256, 257, 1999, 2000, 1 << 32, 1<<32 + 1, 1<<32 + 2, math.MaxInt, math.MaxInt - 1, math.MinInt, math.MinInt + 1} {
		l = append(l, []int{size}, []int{size, 2}, []int{2, size}, []int{1, size, 3}, []int{1, 2, 2, size}, []int{size, 1, 1, 1}, []int{size, size})
	}
	return l
}

// randomBase returns base cells that are small, or whose totals are near the
// limit, or of which some are large.
func randomBase(r *rand.Rand, sizes []int) []int {
	base := make([]int, len(baseIndicesOf(sizes)))
	kind, most := r.Intn(4), 1000000/len(base)
	for i := range base {
		switch {
		case kind == 0:
			base[i] = r.Intn(7) - 3
		case kind == 1:
			base[i] = most - r.Intn(2)
		case kind == 2:
			base[i] = -most
		default:
			base[i] = r.Intn(2*most+1) - most
		}
	}
	return base
}

// randomCube returns a valid cube.
func randomCube(r *rand.Rand, sizes []int) impl.Cube {
	c, ok := cubeOfBase(sizes, randomBase(r, sizes))
	if !ok {
		panic("no cube")
	}
	return c
}

// countingCube has the base cells 1, 2, and so on.
func countingCube(sizes ...int) impl.Cube {
	base := make([]int, len(baseIndicesOf(sizes)))
	for i := range base {
		base[i] = i + 1
	}
	c, ok := cubeOfBase(sizes, base)
	if !ok {
		panic("no cube")
	}
	return c
}

// wrongCubes returns cubes that are not valid: good ones with one fault.
func wrongCubes() []impl.Cube {
	l := []impl.Cube{{}, {Cells: []int{}}, {Cells: []int{1, 1}}, {Cells: []int{1000001}}, {Cells: []int{-1000001}}, {Cells: make([]int, 2001)}, {Sizes: []int{1}}, {Sizes: []int{30, 30, 30, 30}}}
	for _, sizes := range wrongSizes() {
		for _, count := range []int{0, 1, 2, 4, 32, 2001} {
			l = append(l, impl.Cube{Sizes: sizes, Cells: make([]int, count)})
		}
	}
	for _, sizes := range [][]int{{}, {1}, {2}, {1, 1}, {2, 3}, {3, 1, 2}, {1, 2, 1, 2}} {
		good := countingCube(sizes...)
		spoil := func(cells []int) { l = append(l, impl.Cube{Sizes: sizes, Cells: cells}) }
		spoil(nil)
		spoil(good.Cells[1:])
		spoil(good.Cells[:len(good.Cells)-1])
		spoil(append(slices.Clone(good.Cells), 0))
		spoil(append(slices.Clone(good.Cells), good.Cells...))
		spoil(baseOf(good)[:len(baseOf(good))/2])
		for i, n := range good.Cells {
			for _, x := range []int{n + 1, n - 1, -n, 1000001, -1000001, 1 << 32, 1<<32 + n, math.MaxInt, math.MinInt, math.MinInt + 1} {
				cells := slices.Clone(good.Cells)
				cells[i] = x
				if len(sizes) > 0 || x < -1000000 || x > 1000000 {
					spoil(cells)
				}
			}
		}
	}
	return l
}

func sameCube(a, b impl.Cube) bool {
	return slices.Equal(a.Sizes, b.Sizes) && slices.Equal(a.Cells, b.Cells)
}

func expectCube(t *testing.T, call string, got impl.Cube, ok bool, want impl.Cube, wantOK bool) {
	t.Helper()
	if !sameCube(got, want) || ok != wantOK {
		t.Errorf("%.300s is %.300s %v, not %.300s %v", call, fmt.Sprint(got), ok, fmt.Sprint(want), wantOK)
	}
}

func TestCubeLimits(t *testing.T) {
	if impl.MaxDims != 4 || impl.MaxCubeCells != 2000 || impl.MaxCubeValue != 1000000 {
		t.Error("limits", impl.MaxDims, impl.MaxCubeCells, impl.MaxCubeValue)
	}
}

func TestOracleKnowsSizes(t *testing.T) {
	for _, sizes := range append(smallSizes(3), largeSizes()...) {
		if !sizesAreGood(sizes) || len(indicesOf(sizes)) > 2000 {
			t.Error("should be sizes", sizes)
		}
	}
	for _, sizes := range wrongSizes() {
		if sizesAreGood(sizes) {
			t.Error("should not be sizes", sizes)
		}
	}
	if most, next := len(indicesOf([]int{19, 9, 9})), len(indicesOf([]int{2, 22, 28})); most != 2000 || next != 2001 {
		t.Error("sizes at the limit", most, next)
	}
}

func TestOracleKnowsCubes(t *testing.T) {
	r := rand.New(rand.NewSource(1000))
	for _, sizes := range append(smallSizes(3), largeSizes()...) {
		if c := randomCube(r, sizes); !cubeIsGood(c) {
			t.Error("should be a cube", c)
		}
	}
	for _, c := range wrongCubes() {
		if cubeIsGood(c) {
			t.Errorf("should not be a cube %.300s", fmt.Sprint(c))
		}
	}
}
