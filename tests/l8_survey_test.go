package tests

import (
	"fmt"
	"math"
	"math/rand"
	"slices"
	"testing"

	"loop.example/g00908/impl"
)

// checkSurvey calls the functions with records, for all cells and each record
// by itself.
func checkSurvey(t *testing.T, p tabulation, l []impl.Record) {
	t.Helper()
	call, n := fmt.Sprint(p.g, p.s, p.u, l), len(p.cells)
	cells, ok := impl.TableOf(p.g, p.s, p.u, l)
	expectInts(t, "TableOf "+call, cells, ok, p.sums(l), true)
	for i := range n {
		records, ok := impl.RecordsIn(p.g, p.s, p.u, l, i)
		expectInts(t, fmt.Sprint("RecordsIn ", call, i), records, ok, p.recordsOf(l, i), true)
	}
	for _, i := range []int{-1, -n, n, n + 1, math.MaxInt, math.MinInt} {
		records, ok := impl.RecordsIn(p.g, p.s, p.u, l, i)
		expectInts(t, fmt.Sprint("RecordsIn ", call, i), records, ok, nil, false)
	}
	for _, r := range l {
		want, wantAmount := p.contribution(r)
		i, amount, ok := impl.ContributionOf(p.g, p.s, p.u, r)
		expectContribution(t, fmt.Sprint("ContributionOf ", call, r), i, amount, ok, want, wantAmount, true)
	}
}

// refusesSurvey calls the functions with records, and a valid table, with a list
// that is no survey.
func refusesSurvey(t *testing.T, g impl.Geo, s []impl.Variable, u impl.Table, l []impl.Record) {
	t.Helper()
	call := fmt.Sprintf("%.300s", fmt.Sprint(g, s, u, l))
	cells, ok := impl.TableOf(g, s, u, l)
	expectInts(t, "TableOf "+call, cells, ok, nil, false)
	for _, i := range []int{-1, 0, 1, 600} {
		records, ok := impl.RecordsIn(g, s, u, l, i)
		expectInts(t, "RecordsIn "+call, records, ok, nil, false)
	}
	for _, r := range l {
		if !surveyIsGood(g, s, []impl.Record{r}) {
			i, amount, ok := impl.ContributionOf(g, s, u, r)
			expectContribution(t, "ContributionOf "+call, i, amount, ok, 0, 0, false)
		}
	}
}

func TestIsSurvey(t *testing.T) {
	r := rand.New(rand.NewSource(84))
	for _, g := range append(unevenGeos(), largeGeos()...) {
		for _, s := range append(smallSchemas(), largestSchema()) {
			for _, n := range []int{0, 1, 2, 39, 40} {
				is, ok := impl.IsSurvey(g, s, randomSurvey(r, g, s, n))
				expectBool(t, fmt.Sprint("IsSurvey ", g, s, n), is, ok, true, true)
			}
		}
	}
}

// TestIsSurveyLooksAtEachArea has all areas, and numbers that are none.
func TestIsSurveyLooksAtEachArea(t *testing.T) {
	s := schemaOf("sex2", "age3")
	good := func(area int) impl.Record { return person(area, 12, 1, 2) }
	for _, g := range append(fewAreas(5), largeGeos()...) {
		leaves := leavesIn(g)
		for area := -2; area <= 32; area++ {
			for _, l := range [][]impl.Record{{good(area)}, {good(leaves[0]), good(area)}, {good(area), good(leaves[0])}, slices.Repeat([]impl.Record{good(area)}, 40)} {
				is, ok := impl.IsSurvey(g, s, l)
				expectBool(t, fmt.Sprint("IsSurvey ", g, l), is, ok, slices.Contains(leaves, area), true)
			}
		}
	}
}

func TestWrongSurveysAreRefused(t *testing.T) {
	for _, s := range smallSchemas() {
		for _, g := range unevenGeos() {
			for _, l := range wrongSurveys(g, s) {
				is, ok := impl.IsSurvey(g, s, l)
				expectBool(t, fmt.Sprintf("IsSurvey %.200s", fmt.Sprint(g, s, l)), is, ok, false, true)
				refusesSurvey(t, g, s, countTable(s, 0), l)
				refusesSurvey(t, g, s, countTable(s, depthIn(g), len(s)-1), l)
			}
		}
	}
}

// TestAllTablesOfSurveys has all lists of conditions of a small schema, and a
// leaf above the last level.
func TestAllTablesOfSurveys(t *testing.T) {
	r := rand.New(rand.NewSource(85))
	s := schemaOf("sex2", "age3")
	for _, g := range []impl.Geo{tree(), tree(0, 0), tree(0, 0, 1)} {
		for _, u := range tablesWith(g, s, allWheres(s)) {
			checkSurvey(t, newTabulation(g, s, u), randomSurvey(r, g, s, r.Intn(12)))
		}
	}
	for _, g := range unevenGeos() {
		for _, u := range tablesWith(g, s, manyWheres(r, s)) {
			checkSurvey(t, newTabulation(g, s, u), randomSurvey(r, g, s, r.Intn(12)))
		}
	}
}

// TestAllRecords has each leaf with each list of values, in parts of 40.
func TestAllRecords(t *testing.T) {
	r := rand.New(rand.NewSource(86))
	s := schemaOf("b2", "age4", "a3")
	for _, g := range unevenGeos() {
		var all []impl.Record
		for _, leaf := range leavesIn(g) {
			for i, values := range listsOfValues(s) {
				all = append(all, person(leaf, i, values...))
			}
		}
		for range 20 {
			p := newTabulation(g, s, randomTable(r, g, s))
			for l := range slices.Chunk(all, 40) {
				checkSurvey(t, p, l)
			}
		}
	}
}

func TestRandomSurveys(t *testing.T) {
	r := rand.New(rand.NewSource(87))
	for _, g := range append(largeGeos(), unevenGeos()...) {
		for _, s := range append(smallSchemas(), largestSchema(), randomSchema(r)) {
			p := newTabulation(g, s, randomTable(r, g, s))
			checkSurvey(t, p, nil)
			checkSurvey(t, p, randomSurvey(r, g, s, 1+r.Intn(40)))
		}
	}
}

// TestEqualRecords counts one record as often as it occurs.
func TestEqualRecords(t *testing.T) {
	g, s := tree(0, 0, 1, 1), schemaOf("sex2", "z8")
	for n := range 41 {
		l := slices.Repeat([]impl.Record{person(4, 12, 1, 7)}, n)
		for sum, amount := range map[int]int{-1: 1, 0: 1, 1: 7} {
			u := impl.Table{Level: 1, Vars: []int{0}, Where: []int{0, 0}, Sum: sum}
			cells, ok := impl.TableOf(g, s, u, l)
			expectInts(t, fmt.Sprint("TableOf ", n, u), cells, ok, []int{0, n * amount, 0, 0}, true)
			records, ok := impl.RecordsIn(g, s, u, l, 1)
			if len(records) != n || !ok {
				t.Error("RecordsIn", n, u, records, ok)
			}
		}
	}
}

func TestTableOfExample(t *testing.T) {
	g, s := tree(0, 0), schemaOf("sex2")
	l := []impl.Record{person(1, 0, 0), person(2, 0, 1), person(2, 0, 1)}
	cells, ok := impl.TableOf(g, s, countTable(s, 1, 0), l)
	expectInts(t, "TableOf", cells, ok, []int{1, 0, 0, 2}, true)
	cells, ok = impl.TableOf(g, s, countTable(s, 0, 0), l)
	expectInts(t, "TableOf the root", cells, ok, []int{1, 2}, true)
	cells, ok = impl.TableOf(g, s, countTable(s, 1), l)
	expectInts(t, "TableOf areas alone", cells, ok, []int{1, 2}, true)
	cells, ok = impl.TableOf(g, s, countTable(s, 1, 0), nil)
	expectInts(t, "TableOf no records", cells, ok, []int{0, 0, 0, 0}, true)
}

// TestLeafAboveTheLevel has the leaves 2, 4 and 5, of the depths 1, 2 and 3.
func TestLeafAboveTheLevel(t *testing.T) {
	g, s := tree(0, 0, 1, 1, 3), schemaOf("sex2", "age5")
	l := []impl.Record{person(2, 1, 0, 4), person(5, 2, 1, 3), person(4, 3, 1, 2), person(2, 4, 1, 1), person(5, 5, 1, 3)}
	cases := []struct {
		u     impl.Table
		cells []int
		at    []int // the cell of each record
	}{
		{countTable(s, 0), []int{5}, []int{0, 0, 0, 0, 0}},
		{countTable(s, 1), []int{3, 2}, []int{1, 0, 0, 1, 0}},
		{countTable(s, 2), []int{2, 1}, []int{-1, 0, 1, -1, 0}},
		{countTable(s, 3), []int{2}, []int{-1, 0, -1, -1, 0}},
		{countTable(s, 2, 0), []int{0, 2, 0, 1}, []int{-1, 1, 3, -1, 1}},
		{impl.Table{Level: 1, Where: []int{0, 0}, Sum: 1}, []int{8, 5}, []int{1, 0, 0, 1, 0}},
		{impl.Table{Level: 2, Where: []int{2, 12}, Sum: 1}, []int{6, 2}, []int{-1, 0, 1, -1, 0}},
		{impl.Table{Level: 1, Vars: []int{0}, Where: []int{0, 14}, Sum: -1}, []int{0, 3, 0, 1}, []int{-1, 1, 1, 3, 1}},
		{impl.Table{Level: 1, Vars: []int{0}, Where: []int{3, 31}, Sum: 0}, []int{0, 3, 0, 1}, []int{2, 1, 1, 3, 1}},
		{impl.Table{Level: 3, Where: []int{1, 0}, Sum: -1}, []int{0}, []int{-1, -1, -1, -1, -1}},
	}
	for _, c := range cases {
		cells, ok := impl.TableOf(g, s, c.u, l)
		expectInts(t, fmt.Sprint("TableOf ", c.u), cells, ok, c.cells, true)
		for k, r := range l {
			i, amount, ok := impl.ContributionOf(g, s, c.u, r)
			want := 0
			if c.at[k] >= 0 {
				want = 1
			}
			if c.at[k] >= 0 && c.u.Sum >= 0 {
				want = r.Values[c.u.Sum]
			}
			expectContribution(t, fmt.Sprint("ContributionOf ", c.u, r), i, amount, ok, c.at[k], want, true)
		}
		checkSurvey(t, newTabulation(g, s, c.u), l)
	}
}

// TestContributionOfRefuses has records whose Area is no leaf.
func TestContributionOfRefuses(t *testing.T) {
	s := schemaOf("sex2", "age3")
	for _, g := range append(fewAreas(4), largeGeos()...) {
		for area := range 30 {
			if slices.Contains(leavesIn(g), area) {
				continue
			}
			for level := range depthIn(g) + 1 {
				i, amount, ok := impl.ContributionOf(g, s, countTable(s, level), person(area, 1, 1, 2))
				expectContribution(t, fmt.Sprint("ContributionOf ", g, level, area), i, amount, ok, 0, 0, false)
			}
		}
	}
	g := tree(0, 0)
	for _, r := range wrongRecords(s) {
		for _, area := range []int{1, 2} {
			if r.Area == 0 {
				r.Area = area
			}
			i, amount, ok := impl.ContributionOf(g, s, countTable(s, 1), r)
			expectContribution(t, fmt.Sprint("ContributionOf ", r), i, amount, ok, 0, 0, false)
		}
	}
}

// TestEachCountedRecordIsInOneCell says promise 8 with the functions alone.
func TestEachCountedRecordIsInOneCell(t *testing.T) {
	r := rand.New(rand.NewSource(88))
	for range 400 {
		g, s := randomGeo(r, 1+r.Intn(12), 1+r.Intn(6)), randomSchema(r)
		u := randomTable(r, g, s)
		l := randomSurvey(r, g, s, r.Intn(41))
		cells, ok := impl.TableOf(g, s, u, l)
		if !ok {
			t.Fatal("refused", g, s, u, l)
		}
		found, rest := make([]int, len(l)), slices.Clone(cells)
		for i := range cells {
			records, ok := impl.RecordsIn(g, s, u, l, i)
			if !ok || !slices.IsSorted(records) {
				t.Error("RecordsIn", g, s, u, l, i, records, ok)
			}
			for _, k := range records {
				found[k]++
				place, amount, ok := impl.ContributionOf(g, s, u, l[k])
				most, _ := impl.SensitivityOf(g, s, u)
				if place != i || amount > most || !ok {
					t.Error("ContributionOf", g, s, u, l[k], i, place, amount, most)
				}
				rest[i] -= amount
			}
		}
		expectInts(t, fmt.Sprint("what is left in cells ", g, s, u, l), rest, true, make([]int, len(cells)), true)
		for k, n := range found {
			i, amount, ok := impl.ContributionOf(g, s, u, l[k])
			if !ok || n > 1 || (n == 0) != (i == -1) || n == 0 && amount != 0 {
				t.Error("ContributionOf", g, s, u, l[k], n, i, amount, ok)
			}
		}
	}
}

// TestCellsOfTwoPartsAddUp says the other half of promise 8.
func TestCellsOfTwoPartsAddUp(t *testing.T) {
	r := rand.New(rand.NewSource(89))
	for range 400 {
		g, s := randomGeo(r, 1+r.Intn(30), 1+r.Intn(6)), randomSchema(r)
		u, l := randomTable(r, g, s), randomSurvey(r, g, s, r.Intn(41))
		var parts [2][]impl.Record
		for _, record := range l {
			k := r.Intn(2)
			parts[k] = append(parts[k], record)
		}
		whole, wholeOK := impl.TableOf(g, s, u, l)
		a, aOK := impl.TableOf(g, s, u, parts[0])
		b, bOK := impl.TableOf(g, s, u, parts[1])
		sums, ok := impl.AddCells(a, b)
		expectInts(t, fmt.Sprint("AddCells of ", g, s, u, parts), sums, ok && wholeOK && aOK && bOK, whole, true)
	}
}

func TestAddCellsExamples(t *testing.T) {
	cases := []struct{ a, b, want []int }{
		{nil, nil, nil},
		{[]int{}, nil, nil},
		{[]int{1, 0, 0, 2}, []int{0, 3, 0, 5}, []int{1, 3, 0, 7}},
		{[]int{-1, 5}, []int{1, -7}, []int{0, -2}},
		{[]int{1000000, -1000000}, []int{-1000000, 1000000}, []int{0, 0}},
		{[]int{1000000, -1000000, 1}, []int{1000000, -1000000, 1000000}, []int{2000000, -2000000, 1000001}},
	}
	for _, c := range cases {
		sums, ok := impl.AddCells(c.a, c.b)
		expectInts(t, fmt.Sprint("AddCells ", c.a, c.b), sums, ok, c.want, true)
		sums, ok = impl.AddCells(c.b, c.a)
		expectInts(t, fmt.Sprint("AddCells ", c.b, c.a), sums, ok, c.want, true)
	}
}

func TestAddCellsOfAllLengths(t *testing.T) {
	r := rand.New(rand.NewSource(90))
	for _, n := range []int{0, 1, 2, 3, 40, 599, 600, 601, 602, 1200, 5000} {
		a, b := randomNumbers(r, n), randomNumbers(r, n)
		want := make([]int, n)
		for i := range want {
			want[i] = a[i] + b[i]
		}
		if n > 600 {
			want = nil
		}
		sums, ok := impl.AddCells(a, b)
		expectInts(t, fmt.Sprint("AddCells ", n), sums, ok, want, n <= 600)
		for _, other := range []int{0, 1, n - 1, n + 1, 2 * n, 600, 601} {
			if other != n && other >= 0 {
				sums, ok := impl.AddCells(a, make([]int, other))
				expectInts(t, fmt.Sprint("AddCells ", n, other), sums, ok, nil, false)
				sums, ok = impl.AddCells(make([]int, other), a)
				expectInts(t, fmt.Sprint("AddCells ", other, n), sums, ok, nil, false)
			}
		}
	}
}

// TestAddCellsLooksAtEachNumber places a number everywhere in both lists.
func TestAddCellsLooksAtEachNumber(t *testing.T) {
	for _, n := range []int{1, 2, 5, 600} {
		for _, place := range []int{0, n / 2, n - 1} {
			for _, x := range append(extremeInts(), 999999, -999999, 1000000, -1000000, 1000001, -1000001, 2000000, 1<<32, -1<<32) {
				good := -1000000 <= x && x <= 1000000
				a, b := make([]int, n), slices.Repeat([]int{3}, n)
				a[place] = x
				var want []int
				if good {
					want = slices.Clone(b)
					want[place] = 3 + x
				}
				sums, ok := impl.AddCells(a, b)
				expectInts(t, fmt.Sprint("AddCells ", n, place, x), sums, ok, want, good)
				sums, ok = impl.AddCells(b, a)
				expectInts(t, fmt.Sprint("AddCells the other way ", n, place, x), sums, ok, want, good)
			}
		}
	}
}
