package tests

import (
	"fmt"
	"math/rand"
	"slices"
	"testing"

	"loop.example/g00908/impl"
)

// checkTable calls the functions that need no records, for all cells and some
// indices and values beyond.
func checkTable(t *testing.T, p tabulation) {
	t.Helper()
	call, n := fmt.Sprint(p.g, p.s, p.u), len(p.cells)
	is, ok := impl.IsTable(p.g, p.s, p.u)
	expectBool(t, "IsTable "+call, is, ok, true, true)
	count, ok := impl.CellCount(p.g, p.s, p.u)
	expectInt(t, "CellCount "+call, count, ok, n, true)
	for i, c := range p.cells {
		area, values, ok := impl.CellAt(p.g, p.s, p.u, i)
		expectCell(t, fmt.Sprint("CellAt ", call, i), area, values, ok, c, true)
		back, ok := impl.CellIndex(p.g, p.s, p.u, area, values)
		expectInt(t, fmt.Sprint("CellIndex ", call, area, values), back, ok, i, true)
	}
	for _, i := range []int{-1, -n, n, n + 1} {
		area, values, ok := impl.CellAt(p.g, p.s, p.u, i)
		expectCell(t, fmt.Sprint("CellAt ", call, i), area, values, ok, cell{}, false)
	}
	for area := -1; area <= len(p.g.Parents); area++ {
		if !slices.Contains(levelOf(p.g, p.u.Level), area) {
			i, ok := impl.CellIndex(p.g, p.s, p.u, area, p.cells[0].values)
			expectInt(t, fmt.Sprint("CellIndex ", call, area), i, ok, 0, false)
		}
	}
}

// checkSensitivity goes through all lists of values.
func checkSensitivity(t *testing.T, p tabulation) {
	t.Helper()
	want, _ := p.sensitivity()
	n, ok := impl.SensitivityOf(p.g, p.s, p.u)
	expectInt(t, fmt.Sprint("SensitivityOf ", p.g, p.s, p.u), n, ok, want, true)
}

// refusesTable calls all functions with a table that is not valid, or with a
// geography or a schema that is not.
func refusesTable(t *testing.T, g impl.Geo, s []impl.Variable, u impl.Table, l []impl.Record) {
	t.Helper()
	call := fmt.Sprintf("%.200s", fmt.Sprint(g, s, u))
	count, ok := impl.CellCount(g, s, u)
	expectInt(t, "CellCount "+call, count, ok, 0, false)
	for _, values := range [][]int{nil, {0}, make([]int, len(u.Vars)), {0, 0}} {
		i, ok := impl.CellIndex(g, s, u, 0, values)
		expectInt(t, "CellIndex "+call, i, ok, 0, false)
	}
	for _, i := range []int{-1, 0, 1, 599, 600} {
		area, values, ok := impl.CellAt(g, s, u, i)
		expectCell(t, "CellAt "+call, area, values, ok, cell{}, false)
		records, ok := impl.RecordsIn(g, s, u, l, i)
		expectInts(t, "RecordsIn "+call, records, ok, nil, false)
	}
	cells, ok := impl.TableOf(g, s, u, l)
	expectInts(t, "TableOf "+call, cells, ok, nil, false)
	for _, r := range append(slices.Clip(l), impl.Record{}) {
		i, amount, ok := impl.ContributionOf(g, s, u, r)
		expectContribution(t, "ContributionOf "+call, i, amount, ok, 0, 0, false)
	}
	n, ok := impl.SensitivityOf(g, s, u)
	expectInt(t, "SensitivityOf "+call, n, ok, 0, false)
}

func TestAllTablesOfSmallSchemas(t *testing.T) {
	for _, s := range [][]impl.Variable{schemaOf("b2"), schemaOf("age3"), schemaOf("sex2", "age3"), schemaOf("b2", "a2", "c2")} {
		for _, g := range append(fewAreas(3), tree(0, 0, 1)) {
			for _, u := range tablesWith(g, s, allWheres(s)) {
				p := newTabulation(g, s, u)
				checkTable(t, p)
				checkSensitivity(t, p)
			}
		}
	}
}

// TestTablesOfAllGeos has all variables in Vars, none, and those between.
func TestTablesOfAllGeos(t *testing.T) {
	s := schemaOf("sex2", "age3", "b2")
	for _, g := range append(fewAreas(5), unevenGeos()...) {
		for _, u := range tablesWith(g, s, [][]int{{0, 0, 0}, {2, 5, 0}}) {
			if u.Sum < 1 {
				checkTable(t, newTabulation(g, s, u))
			}
		}
	}
}

func TestRandomTables(t *testing.T) {
	r := rand.New(rand.NewSource(81))
	for _, g := range append(largeGeos(), unevenGeos()...) {
		for _, s := range append(smallSchemas(), largestSchema(), randomSchema(r), randomSchema(r)) {
			for range 3 {
				p := newTabulation(g, s, randomTable(r, g, s))
				checkTable(t, p)
				if count, _ := impl.CombinationCount(s); count <= 24 {
					checkSensitivity(t, p)
				}
			}
		}
	}
}

func TestIsTableRefuses(t *testing.T) {
	for _, s := range append(smallSchemas(), largestSchema()) {
		for _, g := range unevenGeos() {
			l := []impl.Record{person(leavesIn(g)[0], 0, make([]int, len(s))...)}
			for _, u := range wrongTables(g, s) {
				is, ok := impl.IsTable(g, s, u)
				expectBool(t, fmt.Sprintf("IsTable %.200s", fmt.Sprint(g, s, u)), is, ok, false, true)
				refusesTable(t, g, s, u, l)
			}
		}
	}
}

// TestIsTableLooksAtEachNumber goes through all numbers about the bounds.
func TestIsTableLooksAtEachNumber(t *testing.T) {
	g, s := tree(0, 0, 1, 1), schemaOf("sex2", "age3")
	for n := -10; n <= 70; n++ {
		for _, u := range []impl.Table{
			{Level: n, Where: []int{0, 0}, Sum: -1}, {Level: n, Vars: []int{0, 1}, Where: []int{3, 7}, Sum: 1},
			{Vars: []int{n}, Where: []int{0, 0}}, {Vars: []int{0, n}, Where: []int{0, 0}}, {Vars: []int{n, 1}, Where: []int{1, 0}},
			{Level: 2, Where: []int{n, 0}}, {Level: 2, Where: []int{0, n}}, {Level: 1, Where: []int{n, n}}, {Level: 1, Where: []int{0, 0}, Sum: n},
		} {
			is, ok := impl.IsTable(g, s, u)
			expectBool(t, fmt.Sprint("IsTable ", u), is, ok, tableIsGood(g, s, u), true)
		}
	}
	for count := range 4 {
		for _, numbers := range allNumbers(count, -1, 3) {
			for _, u := range []impl.Table{{Vars: numbers, Where: []int{0, 0}}, {Where: numbers}} {
				is, ok := impl.IsTable(g, s, u)
				expectBool(t, fmt.Sprint("IsTable ", u), is, ok, tableIsGood(g, s, u), true)
			}
		}
	}
}

// TestIsTableLevels asks for all levels, and for those about them.
func TestIsTableLevels(t *testing.T) {
	s := schemaOf("b2")
	for n := 1; n <= 30; n++ {
		for _, g := range []impl.Geo{chain(n), star(n), broom((n+1)/2, n)} {
			depth := depthIn(g)
			for level := -2; level <= depth+2; level++ {
				u := countTable(s, level, 0)
				is, ok := impl.IsTable(g, s, u)
				expectBool(t, fmt.Sprint("IsTable ", g, level), is, ok, 0 <= level && level <= depth, true)
			}
		}
	}
}

// TestMaxCells has tables with 600 cells, and with the next greater numbers of
// cells: 608 for any geography, and 625 for one area.
func TestMaxCells(t *testing.T) {
	cases := []struct {
		g     impl.Geo
		s     []impl.Variable
		level int
		count int
	}{
		{star(26), schemaOf("a3", "b8"), 1, 600},
		{star(26), schemaOf("a2", "b3", "c4"), 1, 600},
		{star(11), schemaOf("a3", "b4", "c5"), 1, 600},
		{broom(4, 28), schemaOf("e5", "d5"), 4, 600},
		{star(16), schemaOf("e5", "d8"), 1, 600},
		{tree(), schemaOf("a4", "b5", "c5", "d6"), 0, 600},
		{chain(30), schemaOf("a4", "b5", "c5", "d6"), 29, 600},
		{broom(5, 30), schemaOf("a2", "b2", "c3", "d2"), 5, 600},
		{star(20), schemaOf("a4", "b8"), 1, 608},
		{broom(11, 30), schemaOf("a2", "b2", "c2", "d2", "e2"), 11, 608},
		{tree(), schemaOf("a5", "b5", "c5", "d5"), 0, 625},
		{chain(3), schemaOf("a5", "b5", "c5", "d5"), 2, 625},
		{star(30), schemaOf("a3", "b7"), 1, 609},
		{star(30), largestSchema(), 1, 29 * 262144},
		{tree(), largestSchema(), 0, 262144},
	}
	for _, c := range cases {
		u := countTable(c.s, c.level, allBut(c.s)...)
		if count := len(levelOf(c.g, c.level)) * len(listsOfValues(c.s)); count != c.count {
			t.Fatal("cells", c.g, c.s, count)
		}
		is, ok := impl.IsTable(c.g, c.s, u)
		expectBool(t, fmt.Sprint("IsTable ", c.g, c.s, u), is, ok, c.count == 600, true)
		if c.count > 600 {
			refusesTable(t, c.g, c.s, u, nil)
			continue
		}
		p, r := newTabulation(c.g, c.s, u), rand.New(rand.NewSource(82))
		checkTable(t, p)
		checkSurvey(t, p, randomSurvey(r, c.g, c.s, 40))
		p.u.Sum = len(c.s) - 1
		checkSurvey(t, p, slices.Repeat([]impl.Record{person(leavesIn(c.g)[0], 0, farRecord(c.s).Values...)}, 40))
	}
}

func TestCellExamples(t *testing.T) {
	g, s := tree(0, 0, 1, 1, 2, 5), schemaOf("sex2", "age3", "b2")
	u := countTable(s, 2, 1, 2)
	cases := []cell{{3, []int{0, 0}}, {3, []int{0, 1}}, {3, []int{1, 0}}, {3, []int{1, 1}}, {3, []int{2, 0}}, {3, []int{2, 1}}, {4, []int{0, 0}}}
	for i, c := range cases {
		area, values, ok := impl.CellAt(g, s, u, i)
		expectCell(t, fmt.Sprint("CellAt ", i), area, values, ok, c, true)
		index, ok := impl.CellIndex(g, s, u, c.area, c.values)
		expectInt(t, fmt.Sprint("CellIndex ", c), index, ok, i, true)
	}
	count, ok := impl.CellCount(g, s, u)
	expectInt(t, "CellCount", count, ok, 18, true)
	area, values, ok := impl.CellAt(g, s, u, 17)
	expectCell(t, "CellAt the last", area, values, ok, cell{5, []int{2, 1}}, true)
	none := countTable(s, 1)
	count, ok = impl.CellCount(g, s, none)
	expectInt(t, "CellCount without Vars", count, ok, 2, true)
	area, values, ok = impl.CellAt(g, s, none, 1)
	expectCell(t, "CellAt without Vars", area, values, ok, cell{area: 2}, true)
	i, ok := impl.CellIndex(g, s, none, 2, nil)
	expectInt(t, "CellIndex without Vars", i, ok, 1, true)
}

// TestCellIndexRefuses has areas of other depths and wrong values for Vars.
func TestCellIndexRefuses(t *testing.T) {
	g := tree(0, 0, 1, 1, 3)
	for _, s := range smallSchemas() {
		for level := range 4 {
			areas := levelOf(g, level)
			for _, v := range []int{0, len(s) - 1} {
				u := countTable(s, level, v)
				for _, values := range wrongValues(s[v : v+1]) {
					i, ok := impl.CellIndex(g, s, u, areas[0], values)
					expectInt(t, fmt.Sprint("CellIndex ", s, u, values), i, ok, 0, false)
				}
				for _, area := range append(extremeInts(), 0, 1, 2, 3, 4, 5, 6, 29, 30, -1) {
					if !slices.Contains(areas, area) {
						i, ok := impl.CellIndex(g, s, u, area, []int{0})
						expectInt(t, fmt.Sprint("CellIndex ", s, u, area), i, ok, 0, false)
					}
				}
			}
			for _, values := range [][]int{{0}, {0, 0}, make([]int, len(s))} {
				i, ok := impl.CellIndex(g, s, countTable(s, level), areas[0], values)
				expectInt(t, fmt.Sprint("CellIndex without Vars ", s, values), i, ok, 0, false)
			}
		}
	}
}

// TestCellIndexLooksAtEachValue goes through all values about the bounds.
func TestCellIndexLooksAtEachValue(t *testing.T) {
	g, s := tree(0, 0, 1, 1), schemaOf("c4", "b2", "a3")
	for _, vars := range setsOfVariables(3) {
		p := newTabulation(g, s, countTable(s, 1, vars...))
		for count := range 5 {
			for _, values := range allNumbers(count, -1, 4-count/4*2) {
				want := slices.IndexFunc(p.cells, func(c cell) bool { return c.area == 2 && slices.Equal(c.values, values) })
				i, ok := impl.CellIndex(g, s, p.u, 2, values)
				expectInt(t, fmt.Sprint("CellIndex ", p.u, values), i, ok, max(want, 0), want >= 0)
			}
		}
	}
}

func TestMeetsWhere(t *testing.T) {
	for _, s := range [][]impl.Variable{schemaOf("b2"), schemaOf("sex2", "age3"), schemaOf("a4"), schemaOf("z8")} {
		for _, where := range allWheres(s) {
			u := impl.Table{Where: where, Sum: -1}
			for _, values := range listsOfValues(s) {
				is, ok := impl.MeetsWhere(s, u, person(0, 0, values...))
				expectBool(t, fmt.Sprint("MeetsWhere ", s, u, values), is, ok, meets(u, values), true)
			}
		}
	}
	r := rand.New(rand.NewSource(83))
	for _, s := range append(smallSchemas(), largestSchema()) {
		for _, where := range manyWheres(r, s) {
			for range 10 {
				u, values := impl.Table{Where: where}, randomValues(r, s)
				is, ok := impl.MeetsWhere(s, u, person(29, 999, values...))
				expectBool(t, fmt.Sprint("MeetsWhere ", s, u, values), is, ok, meets(u, values), true)
			}
		}
	}
}

// TestMeetsWhereNeedsNoTable has tables that are valid for no geography.
func TestMeetsWhereNeedsNoTable(t *testing.T) {
	s := schemaOf("sex2", "age3")
	for _, n := range append(extremeInts(), 30, 99) {
		for _, u := range []impl.Table{
			{Level: n, Where: []int{0, 6}, Sum: n}, {Vars: []int{n, n}, Where: []int{0, 6}}, {Level: -1, Vars: []int{1, 0, n}, Where: []int{0, 6}, Sum: -2},
			{Vars: slices.Repeat([]int{n}, 1000), Where: []int{0, 6}, Sum: n}, {Level: n, Vars: []int{0, 1, 2}, Where: []int{3, 6}, Sum: -n},
		} {
			for _, values := range listsOfValues(s) {
				is, ok := impl.MeetsWhere(s, u, person(29, 999, values...))
				expectBool(t, fmt.Sprintf("MeetsWhere %.100s", fmt.Sprint(u, values)), is, ok, values[1] > 0, true)
			}
		}
	}
}

func TestMeetsWhereRefuses(t *testing.T) {
	for _, s := range append(smallSchemas(), largestSchema()) {
		for _, where := range wrongWheres(s) {
			for _, r := range []impl.Record{farRecord(s), {Values: make([]int, len(s))}} {
				is, ok := impl.MeetsWhere(s, impl.Table{Where: where, Sum: -1}, r)
				expectBool(t, fmt.Sprint("MeetsWhere ", s, where), is, ok, false, false)
			}
		}
		for _, r := range wrongRecords(s) {
			for _, where := range [][]int{make([]int, len(s)), editOfAll(s).Sets} {
				is, ok := impl.MeetsWhere(s, impl.Table{Where: where, Sum: -1}, r)
				expectBool(t, fmt.Sprint("MeetsWhere ", s, r), is, ok, false, false)
			}
		}
	}
}

func TestSensitivityExamples(t *testing.T) {
	g, s := tree(0, 0, 1, 1), schemaOf("sex2", "age5", "z8")
	cases := []struct {
		where []int
		sum   int
		want  int
	}{
		{[]int{0, 0, 0}, -1, 1}, {[]int{1, 1, 1}, -1, 1}, {[]int{3, 31, 255}, -1, 1},
		{[]int{0, 0, 0}, 0, 1}, {[]int{0, 0, 0}, 1, 4}, {[]int{0, 0, 0}, 2, 7},
		{[]int{3, 31, 255}, 0, 1}, {[]int{3, 31, 255}, 1, 4}, {[]int{3, 31, 255}, 2, 7},
		{[]int{1, 0, 0}, 0, 0}, {[]int{1, 0, 0}, 1, 4}, {[]int{0, 15, 0}, 1, 3}, {[]int{0, 5, 0}, 1, 2},
		{[]int{0, 1, 0}, 1, 0}, {[]int{0, 2, 0}, 1, 1}, {[]int{0, 16, 128}, 1, 4}, {[]int{0, 1, 127}, 2, 6}, {[]int{0, 1, 64}, 2, 6}, {[]int{2, 30, 1}, 2, 0},
	}
	for _, c := range cases {
		for level := range 3 {
			for _, vars := range [][]int{nil, {0}, {0, 1}, {2}} {
				u := impl.Table{Level: level, Vars: vars, Where: c.where, Sum: c.sum}
				n, ok := impl.SensitivityOf(g, s, u)
				expectInt(t, fmt.Sprint("SensitivityOf ", u), n, ok, c.want, true)
			}
		}
	}
}
