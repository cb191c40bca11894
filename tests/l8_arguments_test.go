package tests

import (
	"fmt"
	"slices"
	"testing"

	"loop.example/g00908/impl"
)

// refusesPlace calls all functions with a geography or a schema that they do not
// take.
func refusesPlace(t *testing.T, g impl.Geo, s []impl.Variable, u impl.Table, l []impl.Record) {
	t.Helper()
	call := fmt.Sprintf("%.200s", fmt.Sprint(g, s, u, l))
	is, ok := impl.IsSurvey(g, s, l)
	expectBool(t, "IsSurvey "+call, is, ok, false, false)
	is, ok = impl.IsTable(g, s, u)
	expectBool(t, "IsTable "+call, is, ok, false, false)
	refusesTable(t, g, s, u, l)
}

// TestChapter8RefusesInvalidGeos has tables that are valid for other
// geographies, and tables that are valid for none.
func TestChapter8RefusesInvalidGeos(t *testing.T) {
	s := schemaOf("sex2", "age3")
	for _, g := range invalidGeos() {
		last := max(len(g.Parents)-1, 0)
		for _, u := range []impl.Table{countTable(s, 0), countTable(s, 1, 0), {Where: []int{3, 7}, Sum: 1}, {Level: last, Where: []int{0, 0}}, {}} {
			refusesPlace(t, g, s, u, nil)
			refusesPlace(t, g, s, u, []impl.Record{person(last%30, 1, 1, 2)})
			refusesPlace(t, g, nil, u, []impl.Record{{}})
		}
	}
}

// TestChapter8RefusesInvalidSchemas has a Where and records that suit the number
// of variables, and others.
func TestChapter8RefusesInvalidSchemas(t *testing.T) {
	for _, s := range invalidSchemas() {
		zero := make([]int, len(s))
		for _, u := range []impl.Table{{Sum: -1}, countTable(s, 0), countTable(s, 1, 0), {Where: zero}, {Where: []int{0}, Sum: -1}, {Vars: []int{0}, Where: slices.Repeat([]int{1}, len(s))}} {
			for _, r := range []impl.Record{{Area: 1, Values: zero}, person(1, 2, 0), person(2, 3, 0, 1)} {
				for _, g := range []impl.Geo{tree(), tree(0, 0)} {
					refusesPlace(t, g, s, u, nil)
					refusesPlace(t, g, s, u, []impl.Record{r})
				}
				is, ok := impl.MeetsWhere(s, u, r)
				expectBool(t, fmt.Sprintf("MeetsWhere %.200s", fmt.Sprint(s, u, r)), is, ok, false, false)
			}
		}
	}
}

// TestChapter8AcceptsAllNumbers fails also by the panic of a call.
func TestChapter8AcceptsAllNumbers(t *testing.T) {
	g, s := tree(0, 0, 1, 1), schemaOf("age3", "b2")
	numbers := append(extremeInts(), 3, 4, 5, 6, 7, 8, 600, 1<<32, 1<<32+1, 1<<62, -1<<62)
	for _, x := range numbers {
		for _, y := range numbers {
			acceptsTable(t, g, s, impl.Table{Level: x, Where: []int{0, 0}, Sum: y})
			acceptsTable(t, g, s, impl.Table{Vars: []int{x, y}, Where: []int{7, 3}, Sum: -1})
			acceptsTable(t, g, s, impl.Table{Level: 1, Vars: []int{1}, Where: []int{x, y}, Sum: 0})
			acceptsRecord(t, g, s, person(x, y, 2, 1))
			acceptsRecord(t, g, s, person(4, 12, x, y))
			acceptsCell(t, newTabulation(g, s, countTable(s, 2, 0)), x, y)
			callChapter8(tree(x, y), s, countTable(s, 1, 0), []impl.Record{person(2, 0, 2, 1)}, 0, 2, []int{1}, []int{x, y})
			callChapter8(impl.Geo{Parents: []int{x, y}}, s, countTable(s, 1, 0), []impl.Record{person(1, 0, 2, 1)}, x, y, []int{y}, []int{x})
			callChapter8(g, []impl.Variable{{Name: "a", Levels: x}, {Name: "b", Levels: y}}, impl.Table{Level: 1, Vars: []int{1}, Where: []int{0, 0}, Sum: 0}, []impl.Record{person(4, 0, 1, 1)}, y, x, []int{y}, nil)
		}
	}
}

// acceptsTable calls the functions with a table that is good or not.
func acceptsTable(t *testing.T, g impl.Geo, s []impl.Variable, u impl.Table) {
	t.Helper()
	l := []impl.Record{person(4, 12, 2, 1), person(2, 0, 0, 0)}
	if !tableIsGood(g, s, u) {
		is, ok := impl.IsTable(g, s, u)
		expectBool(t, fmt.Sprint("IsTable ", u), is, ok, false, true)
		refusesTable(t, g, s, u, l)
		return
	}
	p := newTabulation(g, s, u)
	checkTable(t, p)
	checkSurvey(t, p, l)
	checkSensitivity(t, p)
}

// acceptsRecord calls the functions with a record that is good or not.
func acceptsRecord(t *testing.T, g impl.Geo, s []impl.Variable, r impl.Record) {
	t.Helper()
	u, l := impl.Table{Level: 1, Vars: []int{0}, Where: []int{6, 0}, Sum: -1}, []impl.Record{person(2, 0, 1, 0), r}
	good := surveyIsGood(g, s, l)
	is, ok := impl.IsSurvey(g, s, l)
	expectBool(t, fmt.Sprint("IsSurvey ", l), is, ok, good, true)
	is, ok = impl.MeetsWhere(s, u, r)
	expectBool(t, fmt.Sprint("MeetsWhere ", u, r), is, ok, recordIsGood(s, r) && meets(u, r.Values), recordIsGood(s, r))
	if good {
		checkSurvey(t, newTabulation(g, s, u), l)
	} else {
		refusesSurvey(t, g, s, u, l)
	}
}

// acceptsCell calls the functions with two numbers as indices, area and value,
// and adds them.
func acceptsCell(t *testing.T, p tabulation, x, y int) {
	t.Helper()
	l := []impl.Record{person(4, 12, 2, 1), person(2, 0, 0, 0)}
	wantAt, wantRecords, exists := cell{}, []int(nil), x >= 0 && x < len(p.cells)
	if exists {
		wantAt, wantRecords = p.cells[x], p.recordsOf(l, x)
	}
	area, values, ok := impl.CellAt(p.g, p.s, p.u, x)
	expectCell(t, fmt.Sprint("CellAt ", x), area, values, ok, wantAt, exists)
	records, ok := impl.RecordsIn(p.g, p.s, p.u, l, x)
	expectInts(t, fmt.Sprint("RecordsIn ", x), records, ok, wantRecords, exists)
	want := slices.IndexFunc(p.cells, func(c cell) bool { return c.area == x && c.values[0] == y })
	i, ok := impl.CellIndex(p.g, p.s, p.u, x, []int{y})
	expectInt(t, fmt.Sprint("CellIndex ", x, y), i, ok, max(want, 0), want >= 0)
	i, ok = impl.CellIndex(p.g, p.s, p.u, 3, []int{x, y})
	expectInt(t, fmt.Sprint("CellIndex of two values ", x, y), i, ok, 0, false)
	var wantSums []int
	good := x >= -1000000 && x <= 1000000 && y >= -1000000 && y <= 1000000
	if good {
		wantSums = []int{x + y, 2 * x}
	}
	sums, ok := impl.AddCells([]int{x, x}, []int{y, x})
	expectInts(t, fmt.Sprint("AddCells ", x, y), sums, ok, wantSums, good)
}

// callChapter8 calls every function of chapter 8 with the arguments.
func callChapter8(g impl.Geo, s []impl.Variable, u impl.Table, l []impl.Record, i, area int, values, numbers []int) {
	impl.IsSurvey(g, s, l)
	impl.IsTable(g, s, u)
	impl.CellCount(g, s, u)
	impl.CellIndex(g, s, u, area, values)
	impl.CellAt(g, s, u, i)
	cells, _ := impl.TableOf(g, s, u, l)
	impl.RecordsIn(g, s, u, l, i)
	for _, r := range l {
		impl.MeetsWhere(s, u, r)
		impl.ContributionOf(g, s, u, r)
	}
	impl.SensitivityOf(g, s, u)
	impl.AddCells(cells, cells)
	impl.AddCells(numbers, values)
	impl.AddCells(numbers, numbers)
}

// tableWorld is the arguments of a call, with elements behind each list.
type tableWorld struct {
	world
	parents []int
	vars    []int
	where   []int
	a, b    []int
}

func newTableWorld() tableWorld {
	w := tableWorld{world: newWorld(), parents: farParents(), vars: []int{0, 2, 1, -1}, where: []int{6, 0, 3, 1, 9}}
	w.a, w.b = []int{1, -2, 1000000, 4, 1000001}, []int{10, -1000000, 30, 40, -1000001}
	for i := range w.values {
		w.l[i].Area = 2 + i%3
	}
	return w
}

// table is the one of the world, of level 1, that counts by so many variables.
func (w tableWorld) table(vars int) impl.Table {
	return impl.Table{Level: 1, Vars: w.vars[:vars], Where: w.where[:3], Sum: 1}
}

func (w tableWorld) geo() impl.Geo { return impl.Geo{Parents: w.parents[:5]} }

func TestChapter8LeavesItsArguments(t *testing.T) {
	for _, spoil := range []func(w *tableWorld){
		func(w *tableWorld) {},
		func(w *tableWorld) { w.parents[2] = 2 },
		func(w *tableWorld) { w.s[1].Name = "zz" },
		func(w *tableWorld) { w.s[2].Levels = 9 },
		func(w *tableWorld) { w.vars[0], w.vars[1] = 2, 0 },
		func(w *tableWorld) { w.vars[1] = 3 },
		func(w *tableWorld) { w.where[0] = 8 },
		func(w *tableWorld) { w.where[1] = -1 },
		func(w *tableWorld) { w.l[3].Area = 1 },
		func(w *tableWorld) { w.l[4].Values = w.l[4].Values[:2] },
		func(w *tableWorld) { w.values[3][0] = 3 },
		func(w *tableWorld) { w.with[0] = 5 },
		func(w *tableWorld) { w.a[2] = 1000001 },
	} {
		w := newTableWorld()
		spoil(&w)
		before := fmt.Sprint(w)
		s, _, l, _ := w.arguments()
		for n := range 4 {
			for i := -1; i <= 3; i++ {
				callChapter8(w.geo(), s, w.table(n), l, i, i, w.with[:n], w.a[:4])
				impl.AddCells(w.a[:4], w.b[:4])
			}
		}
		if after := fmt.Sprint(w); after != before {
			t.Error("changed", after, before)
		}
	}
}

func TestChapter8DoesNotReadSpareCapacity(t *testing.T) {
	w := newTableWorld()
	s, _, l, _ := w.arguments()
	g := w.geo()
	for n := range 3 {
		p := newTabulation(g, s, w.table(n))
		checkTable(t, p)
		checkSurvey(t, p, l)
		checkSurvey(t, p, l[:n])
		checkSensitivity(t, p)
		i, ok := impl.CellIndex(g, s, p.u, 1, make([]int, n, 9)[:max(n-1, 0)])
		expectInt(t, "CellIndex of too few values", i, ok, 0, n == 0)
	}
	refusesTable(t, g, s, w.table(3), l)
	for _, where := range [][]int{w.where[:0], w.where[:2], w.where[:4]} {
		u := impl.Table{Level: 1, Vars: w.vars[:1], Where: where, Sum: -1}
		refusesTable(t, g, s, u, l)
		is, ok := impl.MeetsWhere(s, u, l[0])
		expectBool(t, fmt.Sprint("MeetsWhere ", where), is, ok, false, false)
	}
	refusesSurvey(t, g, s, w.table(1), w.l)
	refusesPlace(t, impl.Geo{Parents: w.parents[:0]}, s, w.table(1), l)
	sums, ok := impl.AddCells(w.a[:4], w.b[:4])
	expectInts(t, "AddCells", sums, ok, []int{11, -1000002, 1000030, 44}, true)
	sums, ok = impl.AddCells(w.a[:3], w.b[:4])
	expectInts(t, "AddCells of too few", sums, ok, nil, false)
}

// listsOfTables returns what the functions with lists as their results return.
func listsOfTables(g impl.Geo, s []impl.Variable, u impl.Table, l []impl.Record, a, b []int) [][]int {
	count, _ := impl.CellCount(g, s, u)
	sums, _ := impl.AddCells(a, b)
	cells, _ := impl.TableOf(g, s, u, l)
	twice, _ := impl.AddCells(cells, cells)
	lists := [][]int{sums, cells, twice}
	for i := range count {
		_, values, _ := impl.CellAt(g, s, u, i)
		records, _ := impl.RecordsIn(g, s, u, l, i)
		lists = append(lists, values, records)
	}
	return lists
}

// expectedOfTables says what listsOfTables must return.
func expectedOfTables(g impl.Geo, s []impl.Variable, u impl.Table, l []impl.Record, a, b []int) [][]int {
	add := func(a, b []int) []int {
		sums := make([]int, len(a))
		for i := range a {
			sums[i] = a[i] + b[i]
		}
		return sums
	}
	p := newTabulation(g, s, u)
	cells := p.sums(l)
	lists := [][]int{add(a, b), cells, add(cells, cells)}
	for i, c := range p.cells {
		lists = append(lists, c.values, p.recordsOf(l, i))
	}
	return lists
}

// TestChapter8ResultsAreNew overwrites the results, one after the other, and
// what their capacity holds behind them, and looks at the others, at the
// arguments and at what the next calls return.
func TestChapter8ResultsAreNew(t *testing.T) {
	w := newTableWorld()
	s, _, l, _ := w.arguments()
	for n := range 3 {
		before, want := fmt.Sprint(w), expectedOfTables(w.geo(), s, w.table(n), l, w.a[:4], w.b[:4])
		for range 3 {
			lists := listsOfTables(w.geo(), s, w.table(n), l, w.a[:4], w.b[:4])
			expectLists(t, "results", lists, want)
			for i := range lists {
				clobber(lists[i], -99)
				expectLists(t, "results behind one that is overwritten", lists[i+1:], want[i+1:])
			}
			if after := fmt.Sprint(w); after != before {
				t.Fatal("a result shares memory with an argument", after, before)
			}
		}
	}
}

// TestChapter8ResultsStay overwrites the arguments after the calls.
func TestChapter8ResultsStay(t *testing.T) {
	for n := range 3 {
		w := newTableWorld()
		s, _, l, _ := w.arguments()
		got := listsOfTables(w.geo(), s, w.table(n), l, w.a[:4], w.b[:4])
		want := expectedOfTables(w.geo(), s, w.table(n), l, w.a[:4], w.b[:4])
		for _, values := range w.values {
			clobber(values, -99)
		}
		for _, numbers := range [][]int{w.parents, w.vars, w.where, w.a, w.b, w.with} {
			clobber(numbers, -99)
		}
		clobber(w.l, impl.Record{Area: -99})
		clobber(w.s, impl.Variable{})
		expectLists(t, "results kept", got, want)
	}
}

// TestArgumentsOfTablesAreOneList gives one list as several arguments.
func TestArgumentsOfTablesAreOneList(t *testing.T) {
	g, s, both := tree(0, 0), schemaOf("age3", "b2"), []int{0, 1}
	u := impl.Table{Level: 1, Vars: both, Where: both, Sum: 0}
	l := []impl.Record{{Area: 1, Values: both}, {Area: 2, Values: both}, {Area: 1, Values: both}, person(2, 0, 2, 0)}
	p := newTabulation(g, s, u)
	checkTable(t, p)
	checkSurvey(t, p, l)
	checkSensitivity(t, p)
	i, ok := impl.CellIndex(g, s, u, 2, both)
	expectInt(t, "CellIndex", i, ok, 7, true)
	for range 3 {
		sums, ok := impl.AddCells(both, both)
		expectInts(t, "AddCells of one list", sums, ok, []int{0, 2}, true)
		clobber(sums, -99)
		_, values, _ := impl.CellAt(g, s, u, 1)
		clobber(values, -99)
		records, _ := impl.RecordsIn(g, s, u, l, 6)
		clobber(records, -99)
	}
	if !slices.Equal(both, []int{0, 1}) {
		t.Error("changed", both)
	}
}

func TestChapter8KeepsNoState(t *testing.T) {
	g, s := tree(0, 0, 1, 1), schemaOf("sex2", "age3")
	p := newTabulation(g, s, impl.Table{Level: 1, Vars: []int{1}, Where: []int{2, 0}, Sum: 0})
	l := []impl.Record{person(2, 12, 1, 2), person(4, 11, 1, 1), person(3, 0, 0, 0), person(3, 0, 1, 0)}
	for range 20 {
		callChapter8(tree(0, 1, 0, 0), schemaOf("sex3", "age3"), countTable(s, 2, 0, 1), []impl.Record{person(2, 1, 2, 2)}, 3, 2, []int{2, 2}, []int{5, 6})
		callChapter8(g, s, impl.Table{Level: 1, Vars: []int{1}, Where: []int{1, 7}, Sum: 1}, l, 2, 1, []int{2}, []int{9, 9, 9, 9})
		callChapter8(g, s, countTable(s, 3), l[:1], 0, 0, nil, nil)
		checkTable(t, p)
		checkSurvey(t, p, l)
		checkSensitivity(t, p)
	}
}
