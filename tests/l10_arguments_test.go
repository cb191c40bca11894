package tests

import (
	"fmt"
	"math"
	"slices"
	"testing"

	"loop.example/g00908/impl"
)

func refusesCubeOfTable(t *testing.T, g impl.Geo, s []impl.Variable, u impl.Table, l []impl.Record) {
	t.Helper()
	c, ok := impl.CubeOfTable(g, s, u, l)
	expectCube(t, fmt.Sprintf("CubeOfTable %.200s", fmt.Sprint(g, s, u, l)), c, ok, impl.Cube{}, false)
}

// TestChapter10RefusesInvalidGeos has tables that are valid for other
// geographies, and tables that are valid for none.
func TestChapter10RefusesInvalidGeos(t *testing.T) {
	s := schemaOf("sex2", "age3")
	for _, g := range invalidGeos() {
		last := max(len(g.Parents)-1, 0)
		for _, u := range []impl.Table{countTable(s, 0), countTable(s, 1, 0), {Where: []int{3, 7}, Sum: 1}, {Level: last, Where: []int{0, 0}}, {}} {
			refusesCubeOfTable(t, g, s, u, nil)
			refusesCubeOfTable(t, g, s, u, []impl.Record{person(last%30, 1, 1, 2)})
			refusesCubeOfTable(t, g, nil, u, []impl.Record{{}})
		}
	}
}

func TestChapter10RefusesInvalidSchemas(t *testing.T) {
	for _, s := range invalidSchemas() {
		zero := make([]int, len(s))
		for _, u := range []impl.Table{{Sum: -1}, countTable(s, 0), countTable(s, 1, 0), {Where: zero}, {Vars: []int{0}, Where: slices.Repeat([]int{1}, len(s))}} {
			for _, g := range []impl.Geo{tree(), tree(0, 0)} {
				refusesCubeOfTable(t, g, s, u, nil)
				refusesCubeOfTable(t, g, s, u, []impl.Record{{Area: 1, Values: zero}})
			}
		}
	}
}

// TestChapter10AcceptsAllNumbers fails also by the panic of a call.
func TestChapter10AcceptsAllNumbers(t *testing.T) {
	g, s := tree(0, 0, 1, 1), schemaOf("age3", "b2")
	numbers := append(extremeInts(), 3, 4, 29, 30, 31, 32, 1<<32-1, 1<<32, 1<<62, -1<<62, 1000000, -1000000, 1000001, -1000001, 999999)
	c := countingCube(2, 3)
	for _, x := range numbers {
		for _, y := range numbers {
			checkCubeOf(t, []int{2}, []int{x, y})
			checkCubeOf(t, []int{1, 2}, []int{y, x})
			acceptsSizes(t, []int{x, y})
			checkForm(t, impl.Cube{Sizes: []int{2}, Cells: []int{x, y, x + y}})
			checkForm(t, impl.Cube{Sizes: []int{1, 1}, Cells: []int{x, x, y, y}})
			checkForm(t, impl.Cube{Sizes: []int{x, y}, Cells: make([]int, 6)})
			checkGroups(t, c, 0, []int{x, y})
			checkGroups(t, c, 1, []int{x, 0, y})
			acceptsIndices(t, c, x, y)
			callChapter10(impl.Cube{Sizes: []int{y}, Cells: []int{x, x}}, c, x, y, []int{x, y})
			callChapter10(c, impl.Cube{Sizes: []int{x, y, x}, Cells: []int{y}}, x, y, []int{y, x, y})
			impl.CubeOfTable(g, s, impl.Table{Level: x, Vars: []int{0}, Where: []int{0, 0}, Sum: y}, nil)
			impl.CubeOfTable(g, s, impl.Table{Vars: []int{x, y}, Where: []int{x, y}, Sum: -1}, []impl.Record{person(x, 0, 0, y)})
			impl.CubeOfTable(impl.Geo{Parents: []int{-1, x, y}}, s, countTable(s, 1), nil)
			impl.CubeOfTable(g, []impl.Variable{{Name: "a", Levels: x}, {Name: "b", Levels: y}}, countTable(s, 1, 0, 1), nil)
		}
	}
}

// acceptsSizes calls the functions with two numbers as sizes, and as the size
// and the index of a cell.
func acceptsSizes(t *testing.T, sizes []int) {
	t.Helper()
	base := []int{1}
	if sizesAreGood(sizes) {
		base = make([]int, sizes[0]*sizes[1])
	}
	checkCubeOf(t, sizes, base)
	one := sizes[:1]
	exists := sizesAreGood(one) && sizes[1] >= 0 && sizes[1] <= sizes[0]
	var want [][]int
	if exists {
		want = partsOfCell(one, sizes[1])
	}
	parts, ok := impl.PartsOf(one, sizes[1])
	expectLists(t, fmt.Sprint("PartsOf ", sizes), parts, want)
	if ok != exists {
		t.Error("PartsOf", sizes, ok)
	}
}

// acceptsIndices calls the functions with two numbers as indices and dimensions
// of a cube of the sizes 2 and 3.
func acceptsIndices(t *testing.T, c impl.Cube, x, y int) {
	t.Helper()
	want, exists := 0, x >= 0 && x <= 2 && y >= 0 && y <= 3
	if exists {
		want = newTabled(c).at([]int{x, y})
	}
	n, ok := impl.CubeCell(c, []int{x, y})
	expectInt(t, fmt.Sprint("CubeCell ", x, y), n, ok, want, exists)
	var margin, cut impl.Cube
	exists = x == 0 && y == 1
	if exists {
		margin = c
	}
	got, ok := impl.MarginOf(c, []int{x, y})
	expectCube(t, fmt.Sprint("MarginOf ", x, y), got, ok, margin, exists)
	exists = x >= 0 && x <= 1 && y >= 0 && y <= 2+x
	if exists {
		cut = sliceOf(c, x, y)
	}
	got, ok = impl.SliceOf(c, x, y)
	expectCube(t, fmt.Sprint("SliceOf ", x, y), got, ok, cut, exists)
}

// callChapter10 calls every function with cubes, and CubeOf and PartsOf, with
// the arguments.
func callChapter10(a, b impl.Cube, dim, i int, numbers []int) {
	for _, c := range []impl.Cube{a, b} {
		impl.IsCube(c)
		impl.FirstBreak(c)
		impl.BaseOf(c)
		impl.CubeCell(c, numbers)
		impl.MarginOf(c, numbers)
		impl.SliceOf(c, dim, i)
		impl.GroupCube(c, dim, numbers)
		impl.CubeOf(c.Sizes, numbers)
		impl.CubeOf(numbers, c.Cells)
		impl.PartsOf(c.Sizes, i)
		impl.PartsOf(c.Cells, dim)
	}
	impl.DifferenceOf(a, b)
	impl.DifferenceOf(b, a)
	impl.PartsOf(numbers, i)
}

// cubeWorld is the arguments of a call, with elements behind each list.
type cubeWorld struct {
	tableWorld
	sizes, base, groups, dims, index []int
	first                            []int
}

func newCubeWorld() cubeWorld {
	w := cubeWorld{tableWorld: newTableWorld(), sizes: []int{2, 3, 1, 1, 1}, base: []int{1, 2, 3, 4, 5, 6, 7}}
	w.groups, w.dims, w.index = []int{1, 0, 0, 2}, []int{0, 1, 2}, []int{2, 3, 0}
	w.first = append(countingCube(2, 3).Cells, 21, 1000001)
	return w
}

// cubes are a cube of two dimensions and others with the same lists of sizes.
func (w cubeWorld) cubes() []impl.Cube {
	return []impl.Cube{{Sizes: w.sizes[:2], Cells: w.first[:12]}, {Sizes: w.sizes[1:2], Cells: []int{4, 5, 6, 15}}, {Sizes: w.sizes[:0], Cells: w.first[:1]}}
}

func TestChapter10LeavesItsArguments(t *testing.T) {
	for _, spoil := range []func(w *cubeWorld){
		func(w *cubeWorld) {},
		func(w *cubeWorld) { w.sizes[1] = 31 },
		func(w *cubeWorld) { w.sizes[0] = 0 },
		func(w *cubeWorld) { w.first[3]++ },
		func(w *cubeWorld) { w.first[0] = 1000001 },
		func(w *cubeWorld) { w.base[2] = 1000000 },
		func(w *cubeWorld) { w.groups[0] = 3 },
		func(w *cubeWorld) { w.dims[1] = 2 },
		func(w *cubeWorld) { w.index[0] = -1 },
		func(w *cubeWorld) { w.parents[2] = 2 },
		func(w *cubeWorld) { w.s[1].Name = "zz" },
		func(w *cubeWorld) { w.vars[1] = 3 },
		func(w *cubeWorld) { w.where[0] = 8 },
		func(w *cubeWorld) { w.l[3].Area = 1 },
	} {
		w := newCubeWorld()
		spoil(&w)
		before := fmt.Sprint(w)
		s, _, l, _ := w.arguments()
		for n := range 4 {
			impl.CubeOfTable(w.geo(), s, w.table(n), l)
			for _, a := range w.cubes() {
				for _, b := range w.cubes() {
					for _, numbers := range [][]int{w.groups[:n], w.dims[:n], w.index[:n], w.base[:2*n]} {
						callChapter10(a, b, n, n, numbers)
					}
				}
			}
		}
		if after := fmt.Sprint(w); after != before {
			t.Error("changed", after, before)
		}
	}
}

func TestChapter10DoesNotReadSpareCapacity(t *testing.T) {
	w := newCubeWorld()
	c := w.cubes()[0]
	for n := range w.sizes {
		for m := range w.base {
			checkCubeOf(t, w.sizes[:n], w.base[:m])
		}
		for i := range 30 {
			if i < len(indicesOf(w.sizes[:n])) {
				checkParts(t, w.sizes[:n], i)
			}
		}
	}
	for _, c := range w.cubes() {
		checkForm(t, c)
		checkCells(t, c)
		checkMargins(t, c)
		for _, other := range w.cubes() {
			checkDifference(t, c, other)
		}
	}
	for n := range 5 {
		checkGroups(t, c, 1, w.groups[:n])
	}
	checkSlices(t, c, 0)
	checkSlices(t, c, 1)
	for _, count := range []int{0, 11, 13, 14} {
		refusesCube(t, impl.Cube{Sizes: w.sizes[:2], Cells: w.first[:count]})
	}
	for _, count := range []int{0, 1, 3} {
		n, ok := impl.CubeCell(c, w.index[:count])
		expectInt(t, "CubeCell of a list of another length", n, ok, 0, false)
	}
	margin, ok := impl.MarginOf(c, w.dims)
	expectCube(t, "MarginOf too many", margin, ok, impl.Cube{}, false)
	s, _, l, _ := w.arguments()
	for n := range 3 {
		checkCubeOfTable(t, newTabulation(w.geo(), s, w.table(n)), l)
	}
	refusesCubeOfTable(t, w.geo(), s, w.table(4), l)
	refusesCubeOfTable(t, w.geo(), s, w.table(1), w.l)
}

// listsOfCubes returns the lists in what the functions return.
func listsOfCubes(w cubeWorld) [][]int {
	var lists [][]int
	add := func(c impl.Cube, _ bool) { lists = append(lists, c.Sizes, c.Cells) }
	c := w.cubes()[0]
	add(impl.CubeOf(w.sizes[:2], w.base[:6]))
	add(impl.CubeOf(nil, w.base[:1]))
	base, _ := impl.BaseOf(c)
	lists = append(lists, base)
	for n := range 3 {
		add(impl.MarginOf(c, w.dims[:n]))
	}
	for i := range 3 {
		add(impl.SliceOf(c, 0, i))
	}
	add(impl.GroupCube(c, 1, w.groups[:3]))
	add(impl.GroupCube(c, 1, w.dims[:3]))
	add(impl.DifferenceOf(c, c))
	add(impl.DifferenceOf(c, impl.Cube{Sizes: w.sizes[:2], Cells: make([]int, 12)}))
	s, _, l, _ := w.arguments()
	add(impl.CubeOfTable(w.geo(), s, w.table(1), l))
	parts, _ := impl.PartsOf(w.sizes[:2], 11)
	return append(lists, parts...)
}

// expectedOfCubes says what listsOfCubes must return.
func expectedOfCubes(w cubeWorld) [][]int {
	var lists [][]int
	add := func(c impl.Cube, _ bool) { lists = append(lists, c.Sizes, c.Cells) }
	c := countingCube(2, 3)
	add(c, true)
	add(impl.Cube{Cells: []int{1}}, true)
	lists = append(lists, []int{1, 2, 3, 4, 5, 6})
	for _, dims := range [][]int{nil, {0}, {0, 1}} {
		add(marginOf(c, dims), true)
	}
	for i := range 3 {
		add(sliceOf(c, 0, i), true)
	}
	add(joinedOf(c, 1, []int{1, 0, 0}))
	add(c, true)
	add(impl.Cube{Sizes: []int{2, 3}, Cells: make([]int, 12)}, true)
	add(c, true)
	s, _, l, _ := w.arguments()
	p := newTabulation(w.geo(), s, w.table(1))
	add(cubeOfBase(p.sizesOf(), p.sums(l)))
	lists = append(lists, partsOfCell([]int{2, 3}, 11)...)
	for i := range lists {
		lists[i] = slices.Clone(lists[i])
	}
	return lists
}

// TestChapter10ResultsAreNew overwrites the lists of the results, one after the
// other, and what their capacity holds behind them, and looks at the others, at
// the arguments and at what the next calls return.
func TestChapter10ResultsAreNew(t *testing.T) {
	w := newCubeWorld()
	before, want := fmt.Sprint(w), expectedOfCubes(w)
	for range 3 {
		lists := listsOfCubes(w)
		expectLists(t, "results", lists, want)
		for i := range lists {
			clobber(lists[i], -99)
			expectLists(t, "results behind one that is overwritten", lists[i+1:], want[i+1:])
		}
		parts, _ := impl.PartsOf(w.sizes[:2], 11)
		clobber(parts, nil)
		if after := fmt.Sprint(w); after != before {
			t.Fatal("a result shares memory with an argument", after, before)
		}
	}
}

// TestChapter10ResultsStay overwrites the arguments after the calls.
func TestChapter10ResultsStay(t *testing.T) {
	w := newCubeWorld()
	lists, want := listsOfCubes(w), expectedOfCubes(w)
	for _, numbers := range [][]int{w.parents, w.vars, w.where, w.sizes, w.base, w.groups, w.dims, w.index, w.first} {
		clobber(numbers, -99)
	}
	for _, values := range w.values {
		clobber(values, -99)
	}
	clobber(w.l, impl.Record{Area: -99})
	clobber(w.s, impl.Variable{})
	expectLists(t, "results kept", lists, want)
}

// TestArgumentsOfCubesAreOneList gives one list as several arguments.
func TestArgumentsOfCubesAreOneList(t *testing.T) {
	ones, both := []int{1, 1}, []int{0, 1}
	for range 3 {
		checkForm(t, impl.Cube{Sizes: ones[:1], Cells: ones})
		checkCubeOf(t, ones[:1], ones[:1])
		checkDifference(t, impl.Cube{Sizes: ones[:1], Cells: ones}, impl.Cube{Sizes: ones[:1], Cells: ones})
		for _, numbers := range [][]int{ones, ones[:1], both, both[:1]} {
			callChapter10(impl.Cube{Sizes: ones[:1], Cells: ones}, impl.Cube{Sizes: numbers, Cells: numbers}, 0, 1, numbers)
		}
		c, _ := impl.CubeOf(ones[:1], ones[:1])
		clobber(c.Sizes, -99)
		clobber(c.Cells, -99)
	}
	three := []int{0, 1, 1}
	checkGroups(t, impl.Cube{Sizes: []int{2}, Cells: three}, 0, three[:2])
	checkGroups(t, impl.Cube{Sizes: three[2:], Cells: three[1:]}, 0, three[:1])
	if !slices.Equal(ones, []int{1, 1}) || !slices.Equal(both, []int{0, 1}) || !slices.Equal(three, []int{0, 1, 1}) {
		t.Error("changed", ones, both, three)
	}
}

func TestChapter10KeepsNoState(t *testing.T) {
	g, s := tree(0, 0, 1, 1), schemaOf("sex2", "age3")
	p := newTabulation(g, s, impl.Table{Level: 1, Vars: []int{1}, Where: []int{2, 0}, Sum: 0})
	l := []impl.Record{person(2, 12, 1, 2), person(4, 11, 1, 1), person(3, 0, 0, 0), person(3, 0, 1, 0)}
	a, b := countingCube(2, 3), countingCube(3, 1, 2)
	for range 20 {
		callChapter10(b, impl.Cube{Sizes: []int{2, 3}, Cells: []int{1}}, 1, 3, []int{0, 1, 0})
		callChapter10(a, b, 0, 0, []int{0, 0})
		callChapter10(impl.Cube{Cells: []int{5}}, impl.Cube{}, -1, math.MaxInt, nil)
		impl.CubeOfTable(g, s, countTable(s, 2, 0, 1), l[1:])
		checkForm(t, a)
		checkCells(t, a)
		checkMargins(t, a)
		checkSlices(t, a, 1)
		checkGroups(t, a, 1, []int{2, 0, 1})
		checkDifference(t, a, a)
		checkCubeOf(t, []int{2, 2}, []int{1, 2, 3, 4})
		checkCubeOfTable(t, p, l)
		checkParts(t, []int{2, 3}, 11)
	}
}
