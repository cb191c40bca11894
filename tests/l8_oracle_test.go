package tests

import (
	"fmt"
	"math"
	"math/rand"
	"slices"
	"testing"

	"loop.example/g00908/impl"
)

// cell is an area and values of the variables of a table.
type cell struct {
	area   int
	values []int
}

// tabulation says what the functions of chapter 8 must return for a valid
// table. It looks at each cell whether a record is counted there.
type tabulation struct {
	g     impl.Geo
	s     []impl.Variable
	u     impl.Table
	cells []cell
}

func newTabulation(g impl.Geo, s []impl.Variable, u impl.Table) tabulation {
	p := tabulation{g: g, s: s, u: u}
	var crossed []impl.Variable
	for _, v := range u.Vars {
		crossed = append(crossed, s[v])
	}
	for _, area := range levelOf(g, u.Level) {
		for _, values := range listsOfValues(crossed) {
			p.cells = append(p.cells, cell{area: area, values: values})
		}
	}
	return p
}

// surveyIsGood says whether a list is a survey for a valid geography and a valid
// schema.
func surveyIsGood(g impl.Geo, s []impl.Variable, l []impl.Record) bool {
	for _, r := range l {
		if r.Area < 0 || r.Area >= len(g.Parents) || len(childrenOf(g, r.Area)) > 0 {
			return false
		}
	}
	return dataAreGood(s, l)
}

// whereIsGood says whether a list is a Where for a valid schema.
func whereIsGood(s []impl.Variable, where []int) bool {
	good := len(where) == len(s)
	for i := 0; good && i < len(s); i++ {
		good = where[i] == 0 || slices.Contains(setsOf(s[i].Levels), where[i])
	}
	return good
}

// tableIsGood says whether a table is valid for a valid geography and a valid
// schema.
func tableIsGood(g impl.Geo, s []impl.Variable, u impl.Table) bool {
	cells, last := len(levelOf(g, u.Level)), -1
	for _, v := range u.Vars {
		if v <= last || v >= len(s) {
			return false
		}
		cells *= s[v].Levels
		last = v
	}
	sum := u.Sum == -1 || u.Sum >= 0 && u.Sum < len(s)
	return sum && 0 < cells && cells < 601 && whereIsGood(s, u.Where)
}

// meets says what MeetsWhere must say of a record with the values.
func meets(u impl.Table, values []int) bool {
	for i, x := range values {
		if u.Where[i] != 0 && !slices.Contains(levelsOfSet(u.Where[i]), x) {
			return false
		}
	}
	return true
}

// isIn says whether a record is counted in a cell.
func (p tabulation) isIn(c cell, r impl.Record) bool {
	for i, v := range p.u.Vars {
		if r.Values[v] != c.values[i] {
			return false
		}
	}
	return slices.Contains(pathOf(p.g, r.Area), c.area) && meets(p.u, r.Values)
}

// amountOf is the amount of a record that is counted.
func (p tabulation) amountOf(r impl.Record) int {
	if p.u.Sum < 0 {
		return 1
	}
	return r.Values[p.u.Sum]
}

// recordsOf says what RecordsIn must return.
func (p tabulation) recordsOf(l []impl.Record, i int) []int {
	var records []int
	for k, r := range l {
		if p.isIn(p.cells[i], r) {
			records = append(records, k)
		}
	}
	return records
}

// sums says what TableOf must return.
func (p tabulation) sums(l []impl.Record) []int {
	sums := make([]int, len(p.cells))
	for i := range sums {
		for _, k := range p.recordsOf(l, i) {
			sums[i] += p.amountOf(l[k])
		}
	}
	return sums
}

// contribution says what ContributionOf must return.
func (p tabulation) contribution(r impl.Record) (int, int) {
	i := slices.IndexFunc(p.cells, func(c cell) bool { return p.isIn(c, r) })
	if i < 0 {
		return -1, 0
	}
	return i, p.amountOf(r)
}

// sensitivity says what SensitivityOf must return, and whether any record is
// counted.
func (p tabulation) sensitivity() (int, bool) {
	greatest, counted := 0, false
	for _, leaf := range leavesIn(p.g) {
		for _, values := range listsOfValues(p.s) {
			i, amount := p.contribution(person(leaf, 0, values...))
			greatest, counted = max(greatest, amount), counted || i >= 0
		}
	}
	return greatest, counted
}

// countTable returns a table without conditions and Sum.
func countTable(s []impl.Variable, level int, vars ...int) impl.Table {
	return impl.Table{Level: level, Vars: vars, Where: make([]int, len(s)), Sum: -1}
}

// depthIn returns the greatest depth of a geography.
func depthIn(g impl.Geo) int {
	depth := 0
	for i := range g.Parents {
		depth = max(depth, len(pathOf(g, i))-1)
	}
	return depth
}

// manyWheres returns lists for Where: no conditions, all levels, and for each
// variable each single level and some sets, with conditions for others or not.
func manyWheres(r *rand.Rand, s []impl.Variable) [][]int {
	none := make([]int, len(s))
	l := [][]int{none, editOfAll(s).Sets, editOfValues(none).Sets, editOfValues(farRecord(s).Values).Sets}
	for i, v := range s {
		sets := setsOf(v.Levels)
		for _, set := range []int{1, setOf(v.Levels - 1), sets[len(sets)-1], sets[r.Intn(len(sets))], sets[r.Intn(len(sets))]} {
			one := slices.Clone(none)
			one[i] = set
			l = append(l, one)
		}
		some := randomEdit(r, s).Sets
		some[i] = 0
		l = append(l, some)
	}
	return l
}

// allWheres returns all lists that Where can be.
func allWheres(s []impl.Variable) [][]int {
	lists := [][]int{{}}
	for _, v := range s {
		var longer [][]int
		for _, l := range lists {
			for _, set := range append([]int{0}, setsOf(v.Levels)...) {
				longer = append(longer, append(slices.Clone(l), set))
			}
		}
		lists = longer
	}
	return lists
}

// tablesWith returns the valid tables with the given lists for Where: all
// levels, variables and Sums.
func tablesWith(g impl.Geo, s []impl.Variable, wheres [][]int) []impl.Table {
	var tables []impl.Table
	for level := range depthIn(g) + 1 {
		for _, vars := range setsOfVariables(len(s)) {
			for _, where := range wheres {
				for sum := -1; sum < len(s); sum++ {
					u := impl.Table{Level: level, Vars: vars, Where: where, Sum: sum}
					if tableIsGood(g, s, u) {
						tables = append(tables, u)
					}
				}
			}
		}
	}
	return tables
}

// randomTable returns a valid table.
func randomTable(r *rand.Rand, g impl.Geo, s []impl.Variable) impl.Table {
	u := countTable(s, r.Intn(depthIn(g)+1))
	for _, vars := range setsOfVariables(len(s)) {
		wider := u
		wider.Vars = vars
		if r.Intn(3) == 0 && tableIsGood(g, s, wider) {
			u = wider
		}
	}
	wheres := manyWheres(r, s)
	u.Where = wheres[r.Intn(len(wheres))]
	u.Sum = r.Intn(len(s)+1) - 1
	return u
}

// randomSurvey returns n records in leaves. Some of them are equal.
func randomSurvey(r *rand.Rand, g impl.Geo, s []impl.Variable, n int) []impl.Record {
	l, leaves := randomData(r, s, n), leavesIn(g)
	for i := range l {
		l[i].Area = leaves[r.Intn(len(leaves))]
		if i > 0 && r.Intn(4) == 0 {
			l[i] = copyData(l[r.Intn(i):i])[0]
		}
	}
	return l
}

// unevenGeos have a leaf above their last level, or are small.
func unevenGeos() []impl.Geo {
	return []impl.Geo{tree(), tree(0), tree(0, 0), tree(0, 0, 1, 1), tree(0, 0, 0, 2, 4), tree(0, 1, 2, 0, 1), tree(0, 0, 0, 1, 1, 3, 3, 3)}
}

// wrongWheres returns lists that no Where can be.
func wrongWheres(s []impl.Variable) [][]int {
	var l [][]int
	for _, e := range wrongEdits(s) {
		if !whereIsGood(s, e.Sets) {
			l = append(l, e.Sets)
		}
	}
	none := make([]int, len(s))
	return append(l, none[1:], append(slices.Clone(none), 0), make([]int, 2*len(s)), make([]int, 1000))
}

// wrongTables returns tables that are not valid: good ones with one fault.
func wrongTables(g impl.Geo, s []impl.Variable) []impl.Table {
	depth, last := depthIn(g), len(s)-1
	var l []impl.Table
	for _, good := range []impl.Table{countTable(s, 0), countTable(s, depth, last), {Level: depth, Vars: []int{0}, Where: editOfAll(s).Sets, Sum: last}} {
		spoil := func(change func(u *impl.Table)) {
			u := good
			change(&u)
			l = append(l, u)
		}
		for _, level := range []int{-1, -2, -30, depth + 1, depth + 2, 30, 31, 256, 1 << 32, 1<<32 + depth, math.MaxInt, math.MaxInt - 1, math.MinInt, math.MinInt + 1} {
			spoil(func(u *impl.Table) { u.Level = level })
		}
		for _, vars := range wrongListsOfVariables(s) {
			spoil(func(u *impl.Table) { u.Vars = vars })
		}
		for _, where := range wrongWheres(s) {
			spoil(func(u *impl.Table) { u.Where = where })
		}
		for _, sum := range wrongVariables(s) {
			if sum != -1 {
				spoil(func(u *impl.Table) { u.Sum = sum })
			}
		}
	}
	return append(l, impl.Table{}, impl.Table{Sum: -1})
}

// wrongSurveys returns lists of records that are no surveys: no data, and data
// with an Area that is no leaf or no area.
func wrongSurveys(g impl.Geo, s []impl.Variable) [][]impl.Record {
	l, leaves := [][]impl.Record{}, leavesIn(g)
	zero, last := make([]int, len(s)), leaves[len(leaves)-1]
	for _, list := range wrongData(s) {
		list = slices.Clone(list)
		for i := range list {
			if list[i].Area == 0 || list[i].Area == 29 {
				list[i].Area = last
			}
		}
		l = append(l, list)
	}
	for area := range 30 {
		if !slices.Contains(leaves, area) {
			bad := person(area, 0, zero...)
			l = append(l, []impl.Record{bad}, []impl.Record{person(last, 7, zero...), bad}, append([]impl.Record{bad}, slices.Repeat([]impl.Record{person(last, 7, zero...)}, 39)...))
		}
	}
	return l
}

func expectCell(t *testing.T, call string, area int, values []int, ok bool, want cell, wantOK bool) {
	t.Helper()
	if area != want.area || !slices.Equal(values, want.values) || ok != wantOK {
		t.Errorf("%.300s is %v %v %v, not %v %v", call, area, values, ok, want, wantOK)
	}
}

func expectContribution(t *testing.T, call string, i, amount int, ok bool, want, wantAmount int, wantOK bool) {
	t.Helper()
	if i != want || amount != wantAmount || ok != wantOK {
		t.Errorf("%.300s is %v %v %v, not %v %v %v", call, i, amount, ok, want, wantAmount, wantOK)
	}
}

func TestCellLimit(t *testing.T) {
	if impl.MaxCells != 600 {
		t.Error("limit", impl.MaxCells)
	}
}

func TestOracleKnowsTables(t *testing.T) {
	r := rand.New(rand.NewSource(800))
	for _, s := range smallSchemas() {
		for _, g := range append(unevenGeos(), largeGeos()...) {
			for range 5 {
				if u := randomTable(r, g, s); !tableIsGood(g, s, u) {
					t.Error("should be a table", g, s, u)
				}
				if l := randomSurvey(r, g, s, r.Intn(41)); !surveyIsGood(g, s, l) {
					t.Error("should be a survey", g, s, l)
				}
			}
		}
		for _, g := range unevenGeos() {
			for _, u := range wrongTables(g, s) {
				if tableIsGood(g, s, u) {
					t.Error("should not be a table", g, s, u)
				}
			}
			for _, l := range wrongSurveys(g, s) {
				if surveyIsGood(g, s, l) {
					t.Error("should not be a survey", g, s, fmt.Sprintf("%.200s", fmt.Sprint(l)))
				}
			}
		}
	}
}

// TestOracleCountsRecordsOnce has no record in two cells, and a record that is
// counted by each table.
func TestOracleCountsRecordsOnce(t *testing.T) {
	r := rand.New(rand.NewSource(801))
	for _, g := range unevenGeos() {
		for _, s := range [][]impl.Variable{schemaOf("b2"), schemaOf("sex2", "age3")} {
			for _, u := range tablesWith(g, s, manyWheres(r, s)) {
				p, l := newTabulation(g, s, u), randomSurvey(r, g, s, 12)
				found := map[int]int{}
				for i := range p.cells {
					for _, k := range p.recordsOf(l, i) {
						found[k]++
					}
				}
				for k, n := range found {
					if n != 1 {
						t.Error("counted twice", g, s, u, l[k])
					}
				}
				if _, counted := p.sensitivity(); !counted {
					t.Error("no record is counted", g, s, u)
				}
			}
		}
	}
}
