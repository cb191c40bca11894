package tests

import (
	"fmt"
	"math"
	"math/rand"
	"testing"

	"loop.example/g00908/impl"
)

// checkCubeOfTable compares the cube with that of the cells of the table, and
// its totals with the records that are counted anywhere.
func checkCubeOfTable(t *testing.T, p tabulation, l []impl.Record) {
	t.Helper()
	call := fmt.Sprintf("CubeOfTable %.200s", fmt.Sprint(p.g, p.s, p.u, l))
	want, wantOK := cubeOfBase(p.sizesOf(), p.sums(l))
	c, ok := impl.CubeOfTable(p.g, p.s, p.u, l)
	expectCube(t, call, c, ok, want, wantOK)
	if !ok {
		return
	}
	total := 0
	for _, r := range l {
		_, amount := p.contribution(r)
		total += amount
	}
	if !impl.IsCube(c) || c.Cells[len(c.Cells)-1] != total {
		t.Error(call, "is no cube with the total", total)
	}
	base, ok := impl.BaseOf(c)
	expectInts(t, "BaseOf "+call, base, ok, p.sums(l), true)
}

// checkParts asks for the parts of a cell of good sizes.
func checkParts(t *testing.T, sizes []int, i int) {
	t.Helper()
	parts, ok := impl.PartsOf(sizes, i)
	expectLists(t, fmt.Sprint("PartsOf ", sizes, i), parts, partsOfCell(sizes, i))
	if !ok {
		t.Error("PartsOf fails", sizes, i)
	}
}

func TestCubeOfTableExamples(t *testing.T) {
	g, s := tree(0, 0), schemaOf("sex2")
	l := []impl.Record{person(1, 0, 0), person(2, 0, 1), person(2, 0, 1)}
	c, ok := impl.CubeOfTable(g, s, countTable(s, 1, 0), l)
	expectCube(t, "CubeOfTable", c, ok, impl.Cube{Sizes: []int{2, 2}, Cells: []int{1, 0, 1, 0, 2, 2, 1, 2, 3}}, true)
	c, ok = impl.CubeOfTable(g, s, countTable(s, 1), l)
	expectCube(t, "CubeOfTable by areas alone", c, ok, impl.Cube{Sizes: []int{2}, Cells: []int{1, 2, 3}}, true)
	c, ok = impl.CubeOfTable(g, s, countTable(s, 0), l)
	expectCube(t, "CubeOfTable of the root", c, ok, impl.Cube{Sizes: []int{1}, Cells: []int{3, 3}}, true)
	c, ok = impl.CubeOfTable(g, s, impl.Table{Level: 1, Vars: []int{0}, Where: []int{0}, Sum: 0}, l)
	expectCube(t, "CubeOfTable with a Sum", c, ok, impl.Cube{Sizes: []int{2, 2}, Cells: []int{0, 0, 0, 0, 2, 2, 0, 2, 2}}, true)
	c, ok = impl.CubeOfTable(g, s, impl.Table{Level: 1, Vars: []int{0}, Where: []int{1}, Sum: -1}, l)
	expectCube(t, "CubeOfTable with a condition", c, ok, impl.Cube{Sizes: []int{2, 2}, Cells: []int{1, 0, 1, 0, 0, 0, 1, 0, 1}}, true)
	c, ok = impl.CubeOfTable(g, s, countTable(s, 1, 0), nil)
	expectCube(t, "CubeOfTable of no records", c, ok, impl.Cube{Sizes: []int{2, 2}, Cells: make([]int, 9)}, true)
}

func TestCubeOfAllSmallTables(t *testing.T) {
	r := rand.New(rand.NewSource(1020))
	for _, s := range [][]impl.Variable{schemaOf("a2"), schemaOf("sex2", "age3"), schemaOf("c2", "a3", "b2")} {
		for _, g := range unevenGeos() {
			for _, u := range tablesWith(g, s, manyWheres(r, s)[:4]) {
				checkCubeOfTable(t, newTabulation(g, s, u), randomSurvey(r, g, s, r.Intn(12)))
			}
		}
	}
}

func TestCubeOfRandomTables(t *testing.T) {
	r := rand.New(rand.NewSource(1021))
	for _, s := range smallSchemas() {
		for _, g := range append(largeGeos(), unevenGeos()...) {
			p := newTabulation(g, s, randomTable(r, g, s))
			checkCubeOfTable(t, p, randomSurvey(r, g, s, r.Intn(41)))
			checkCubeOfTable(t, p, nil)
		}
	}
}

// TestCubeOfTableHasFourDimensions has tables by 0 to 6 variables, which have one
// dimension more than variables.
func TestCubeOfTableHasFourDimensions(t *testing.T) {
	r := rand.New(rand.NewSource(1022))
	s := schemaOf("f2", "e3", "a2", "b2", "d3", "c2")
	for _, g := range []impl.Geo{tree(), tree(0), tree(0, 0), tree(0, 0, 1, 1)} {
		l := randomSurvey(r, g, s, 20)
		for _, vars := range setsOfVariables(6) {
			p := newTabulation(g, s, countTable(s, depthIn(g), vars...))
			c, ok := impl.CubeOfTable(g, s, p.u, l)
			if ok != (len(vars) < 4) || ok != (len(c.Sizes) > 0) {
				t.Error("CubeOfTable", g, p.u, ok, c)
			}
			checkCubeOfTable(t, p, l)
			checkCubeOfTable(t, p, nil)
		}
	}
}

// TestCubeOfTheLargestTables has tables with 560 to 600 cells. No table by three
// variables has as many areas or levels that its cube would have too many cells:
// the most are 1638, of 25 areas and the levels 2, 2 and 6.
func TestCubeOfTheLargestTables(t *testing.T) {
	r := rand.New(rand.NewSource(1023))
	for _, levels := range [][]int{{25, 2, 2, 6}, {29, 2, 2, 5}, {25, 6, 2, 2}, {21, 2, 2, 7}, {18, 2, 2, 8}, {1, 8, 8, 8}, {4, 5, 5, 6}, {9, 8, 8}, {29, 4, 5}, {29, 8}, {29, 2}, {29}} {
		var s []impl.Variable
		var vars []int
		for i, n := range levels[1:] {
			s = append(s, impl.Variable{Name: string(rune('a' + i)), Levels: n})
			vars = append(vars, i)
		}
		s = append(s, impl.Variable{Name: "last", Levels: 8})
		g := star(levels[0] + 1)
		u := countTable(s, 1, vars...)
		u.Sum = len(s) - 1
		checkCubeOfTable(t, newTabulation(g, s, u), randomSurvey(r, g, s, 40))
		checkCubeOfTable(t, newTabulation(g, s, countTable(s, 1, vars...)), randomSurvey(r, g, s, 40))
	}
}

func TestCubeOfTableRefusesTablesAndSurveys(t *testing.T) {
	refuses := func(g impl.Geo, s []impl.Variable, u impl.Table, l []impl.Record) {
		t.Helper()
		c, ok := impl.CubeOfTable(g, s, u, l)
		expectCube(t, fmt.Sprintf("CubeOfTable %.200s", fmt.Sprint(g, s, u, l)), c, ok, impl.Cube{}, false)
	}
	for _, s := range smallSchemas()[:6] {
		for _, g := range unevenGeos()[:5] {
			for _, u := range wrongTables(g, s) {
				refuses(g, s, u, nil)
			}
			for _, l := range wrongSurveys(g, s) {
				refuses(g, s, countTable(s, 0, 0), l)
			}
		}
	}
	// These have more than 600 cells.
	for _, levels := range [][]string{{"a8", "b8", "c8"}, {"a2", "b2", "c6"}} {
		s := schemaOf(levels...)
		refuses(star(27), s, countTable(s, 1, 0, 1, 2), nil)
		refuses(star(30), s, countTable(s, 1, 0, 1, 2), nil)
	}
}

func TestPartsExamples(t *testing.T) {
	for _, c := range []struct {
		sizes []int
		i     int
		want  [][]int
	}{
		{[]int{2, 2}, 2, [][]int{{0, 1}}},
		{[]int{2, 2}, 6, [][]int{{0, 3}}},
		{[]int{2, 2}, 8, [][]int{{2, 5}, {6, 7}}},
		{[]int{2, 2}, 4, nil},
		{[]int{1}, 1, [][]int{{0}}},
		{[]int{1}, 0, nil},
		{nil, 0, nil},
		{[]int{2, 3}, 11, [][]int{{3, 7}, {8, 9, 10}}},
		{[]int{1, 2, 1}, 11, [][]int{{5}, {7, 9}, {10}}},
	} {
		parts, ok := impl.PartsOf(c.sizes, c.i)
		expectLists(t, fmt.Sprint("PartsOf ", c.sizes, c.i), parts, c.want)
		if !ok {
			t.Error("PartsOf fails", c.sizes, c.i)
		}
	}
}

func TestPartsOfAllCells(t *testing.T) {
	for _, sizes := range append(smallSizes(2), []int{5}, []int{30}, []int{3, 4}, []int{4, 1, 3}, []int{7, 1}, []int{1, 7}) {
		for i := range indicesOf(sizes) {
			checkParts(t, sizes, i)
		}
	}
}

func TestPartsOfLargeSizes(t *testing.T) {
	r := rand.New(rand.NewSource(1024))
	for _, sizes := range largeSizes() {
		count := len(indicesOf(sizes))
		last := sizes[len(sizes)-1]
		for _, i := range []int{0, last, count - 1, count - 2, count - 2 - last, r.Intn(count), r.Intn(count)} {
			if i >= 0 {
				checkParts(t, sizes, i)
			}
		}
	}
}

// TestPartsAddUp adds the cells of each list of parts.
func TestPartsAddUp(t *testing.T) {
	r := rand.New(rand.NewSource(1025))
	for _, sizes := range append(cutSizes(), largeSizes()...) {
		c := randomCube(r, sizes)
		for i, n := range c.Cells {
			lists, _ := impl.PartsOf(sizes, i)
			for _, parts := range lists {
				sum := 0
				for _, k := range parts {
					sum += c.Cells[k]
				}
				if sum != n {
					t.Fatal("parts", sizes, i, parts, sum, n)
				}
			}
		}
	}
}

func TestPartsOfRefusesArguments(t *testing.T) {
	for _, sizes := range append(smallSizes(2), largeSizes()...) {
		count := len(indicesOf(sizes))
		for _, i := range []int{-1, -2, -count, count, count + 1, 2 * count, 2001, 1 << 32, 1 << 62, math.MaxInt, math.MinInt, math.MinInt + 1} {
			parts, ok := impl.PartsOf(sizes, i)
			if len(parts) != 0 || ok {
				t.Error("PartsOf", sizes, i, parts)
			}
		}
	}
	for _, sizes := range wrongSizes() {
		for _, i := range []int{-1, 0, 1, 2, 2000, math.MaxInt, math.MinInt} {
			parts, ok := impl.PartsOf(sizes, i)
			if len(parts) != 0 || ok {
				t.Error("PartsOf", sizes, i, parts)
			}
		}
	}
}
