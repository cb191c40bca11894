package tests

import (
	"fmt"
	"math/rand"
	"slices"
	"strings"
	"testing"

	"loop.example/g00908/impl"
)

// refusesTexts calls all functions with a table that is not valid, or with a
// geography or a schema that is not.
func refusesTexts(t *testing.T, g impl.Geo, s []impl.Variable, u impl.Table) {
	t.Helper()
	call := fmt.Sprintf("%.200s", fmt.Sprint(g, s, u))
	text, ok := impl.TableText(g, s, u)
	expectText(t, "TableText "+call, text, ok, "", false)
	normal, ok := impl.NormalTable(g, s, u)
	expectTable(t, "NormalTable "+call, normal, ok, impl.Table{}, false)
	same, ok := impl.SameMeaning(g, s, u, u)
	expectBool(t, "SameMeaning "+call, same, ok, false, false)
	refusesPlan(t, g, s, []impl.Table{u})
	for _, i := range []int{-1, 0, 1} {
		text, ok := impl.CellText(g, s, u, i)
		expectText(t, "CellText "+call, text, ok, "", false)
	}
	refusesReport(t, g, s, u, []int{0}, "", "area 0: 0\n")
	refusesReport(t, g, s, u, nil, "area 1: 0\n")
}

// refusesToRead calls the functions with a geography or a schema that is not
// valid, and no table. A plan then has no wrong line.
func refusesToRead(t *testing.T, g impl.Geo, s []impl.Variable, texts ...string) {
	t.Helper()
	call := fmt.Sprintf("%.200s", fmt.Sprint(g, s))
	refusesPlan(t, g, s, nil)
	for _, text := range append(texts, "", "\n", "count level 0", "sum a level 0", "count level 0 by sex where sex=0") {
		u, ok := impl.ParseTable(g, s, text)
		expectTable(t, "ParseTable "+call+text, u, ok, impl.Table{}, false)
		for _, x := range []string{text, text + "\n", text + "\n" + text + "\n"} {
			l, line, ok := impl.ParsePlan(g, s, x)
			expectPlan(t, "ParsePlan "+call+x, l, line, ok, nil, 0, false)
		}
	}
}

// TestChapter9RefusesInvalidGeos has tables that are valid for other
// geographies, and tables that are valid for none.
func TestChapter9RefusesInvalidGeos(t *testing.T) {
	s := schemaOf("sex2", "age3")
	for _, g := range invalidGeos() {
		last := max(len(g.Parents)-1, 0)
		for _, u := range []impl.Table{countTable(s, 0), countTable(s, 1, 0), {Where: []int{3, 7}, Sum: 1}, {Level: last, Where: []int{0, 0}}, {}} {
			refusesTexts(t, g, s, u)
			refusesTexts(t, g, nil, u)
		}
		refusesToRead(t, g, s, "count level 1 by sex", fmt.Sprint("sum age level ", last))
		refusesToRead(t, g, nil)
	}
}

func TestChapter9RefusesInvalidSchemas(t *testing.T) {
	for _, s := range invalidSchemas() {
		zero := make([]int, len(s))
		for _, g := range []impl.Geo{tree(), tree(0, 0)} {
			for _, u := range []impl.Table{{Sum: -1}, countTable(s, 0), countTable(s, 1, 0), {Where: zero}, {Where: []int{0}, Sum: -1}, {Vars: []int{0}, Where: slices.Repeat([]int{1}, len(s))}} {
				refusesTexts(t, g, s, u)
			}
			texts := []string{"count level 1"}
			for _, v := range s[:min(len(s), 7)] {
				texts = append(texts, "sum "+v.Name+" level 0", "count level 0 by "+v.Name, "count level 1 where "+v.Name+"=1")
			}
			refusesToRead(t, g, s, texts...)
		}
	}
}

// TestChapter9AcceptsAllNumbers fails also by the panic of a call.
func TestChapter9AcceptsAllNumbers(t *testing.T) {
	g, s := tree(0, 0, 1, 1), schemaOf("age3", "b2")
	p := newTabulation(g, s, countTable(s, 1, 1))
	numbers := append(extremeInts(), 3, 4, 5, 6, 7, 8, 600, 1<<32, 1<<32+1, 1<<62, -1<<62, 1000000, -1000000, 1000001)
	for _, x := range numbers {
		for _, y := range numbers {
			acceptsTextOf(t, g, s, impl.Table{Level: x, Where: []int{0, 0}, Sum: y})
			acceptsTextOf(t, g, s, impl.Table{Vars: []int{x, y}, Where: []int{7, 3}, Sum: -1})
			acceptsTextOf(t, g, s, impl.Table{Level: 1, Vars: []int{1}, Where: []int{x, y}, Sum: 0})
			callChapter9(impl.Geo{Parents: []int{-1, x, y}}, s, []impl.Table{countTable(s, 1, 0)}, x, []int{x, y})
			callChapter9(impl.Geo{Parents: []int{x, y}}, s, []impl.Table{countTable(s, 0)}, y, []int{y})
			callChapter9(g, []impl.Variable{{Name: "a", Levels: x}, {Name: "b", Levels: y}}, []impl.Table{countTable(s, 1, 1)}, y, []int{x, x, y, y})
			checkParseTable(t, g, s, fmt.Sprintf("count level %d where age=%d", x, y))
			checkParseTable(t, g, s, fmt.Sprintf("sum b level 1 by age where age=%d,%d", x, y))
			checkParsePlan(t, g, s, fmt.Sprintf("count level %d\nsum b level %d\n", x, y))
			checkParseReport(t, p, p.textOfReport([]int{x, y, y, x}))
			checkParseReport(t, p, fmt.Sprintf("area %d b=%d: 0\n", x, y))
		}
		if x < 0 || x >= 4 {
			text, ok := impl.CellText(g, s, p.u, x)
			expectText(t, fmt.Sprint("CellText ", x), text, ok, "", false)
		}
	}
}

// acceptsTextOf calls the functions with a table that is good or not.
func acceptsTextOf(t *testing.T, g impl.Geo, s []impl.Variable, u impl.Table) {
	t.Helper()
	if !tableIsGood(g, s, u) {
		refusesTexts(t, g, s, u)
		return
	}
	checkTableText(t, g, s, u)
	checkPlanText(t, g, s, []impl.Table{u, u})
	checkMerged(t, g, s, []impl.Table{u}, []impl.Table{countTable(s, 0), u})
	checkCellTexts(t, newTabulation(g, s, u))
	normal, ok := impl.NormalTable(g, s, u)
	expectTable(t, fmt.Sprint("NormalTable ", u), normal, ok, normalOf(s, u), true)
}

// TestChapter9AcceptsAllTexts reads random bytes, and random pieces of texts.
func TestChapter9AcceptsAllTexts(t *testing.T) {
	r := rand.New(rand.NewSource(107))
	g, s := tree(0, 0), schemaOf("where2", "age3")
	p := newTabulation(g, s, countTable(s, 1, 0))
	pieces := []string{"count", "sum", "level", "by", "where", "age", "area", " ", "\n", "=", ",", ": ", "0", "1", "-", "\xff", "\xc3\xa9", "\xed\xa0\x80", "\x00", "\r", "\u2028", "count level 1", "area 1 where=0: ", "where=0,1 ", strings.Repeat("9", 40), strings.Repeat("\xf0", 3000)}
	for range 8000 {
		random := make([]byte, r.Intn(30))
		for i := range random {
			random[i] = byte(r.Intn(256))
		}
		text := ""
		for range r.Intn(9) {
			text += pieces[r.Intn(len(pieces))]
		}
		for _, x := range []string{string(random), text, text + string(random), "count level 0 by " + text, "sum age level 1 where " + text, "area 1 where=0: " + text} {
			checkParseTable(t, g, s, x)
			checkParsePlan(t, g, s, x)
			checkParseReport(t, p, x)
		}
	}
}

// callChapter9 calls every function of chapter 9 with the arguments.
func callChapter9(g impl.Geo, s []impl.Variable, l []impl.Table, i int, numbers []int) {
	for _, u := range l {
		text, _ := impl.TableText(g, s, u)
		impl.ParseTable(g, s, text)
		impl.NormalTable(g, s, u)
		impl.SameMeaning(g, s, u, l[0])
		impl.SameMeaning(g, s, l[0], u)
		impl.CellText(g, s, u, i)
		text, _ = impl.ReportText(g, s, u, numbers)
		impl.ParseReport(g, s, u, text)
	}
	text, _ := impl.PlanText(g, s, l)
	impl.ParsePlan(g, s, text)
	impl.MergePlans(g, s, l, l[:len(l)/2])
	impl.MergePlans(g, s, l[:len(l)/2], l)
}

// planWorld is the arguments of a call, with elements behind each list.
type planWorld struct {
	world
	parents []int
	lists   [][]int
	first   []impl.Table
	second  []impl.Table
	numbers []int
}

func newPlanWorld() planWorld {
	w := planWorld{world: newWorld(), parents: farParents(), numbers: []int{1, -2, 1000000, 0, 1000001}}
	add := func(level, vars, sum int, where ...int) impl.Table {
		lists := [][]int{{1, 2, 0, -1}, append(where, 9, 99)}
		w.lists = append(w.lists, lists...)
		return impl.Table{Level: level, Vars: lists[0][:vars], Where: lists[1][:3], Sum: sum}
	}
	w.first = []impl.Table{add(1, 1, -1, 7, 15, 0), add(0, 0, 1, 1, 2, 3), add(1, 2, 0, 0, 5, 3), add(1, 3, -1, 0, 0, 0)}
	w.second = []impl.Table{add(2, 2, 2, 7, 8, 1), add(1, 1, -1, 0, 15, 3), add(0, 0, 1, 1, 2, 0), add(1, 1, 3, 0, 0, 0)}
	return w
}

// given are the arguments of the world without what lies behind the lists.
func (w planWorld) given() (impl.Geo, []impl.Variable, []impl.Table, []impl.Table, []int) {
	return impl.Geo{Parents: w.parents[:5]}, w.s[:3], w.first[:3], w.second[:3], w.numbers[:4]
}

// spoilsOfPlans returns changes of a world, each of which but the first one makes
// an argument wrong.
func spoilsOfPlans() []func(w *planWorld) {
	return []func(w *planWorld){
		func(w *planWorld) {},
		func(w *planWorld) { w.parents[2] = 2 },
		func(w *planWorld) { w.s[1].Name = "zz" },
		func(w *planWorld) { w.s[2].Levels = 9 },
		func(w *planWorld) { w.lists[0][0] = 3 },
		func(w *planWorld) { w.lists[4][0], w.lists[4][1] = 2, 0 },
		func(w *planWorld) { w.lists[5][1] = 16 },
		func(w *planWorld) { w.lists[3][2] = -1 },
		func(w *planWorld) { w.first[2].Where = w.lists[5][:4] },
		func(w *planWorld) { w.second[1].Level = 3 },
		func(w *planWorld) { w.second[0].Sum = 3 },
		func(w *planWorld) { w.numbers[2] = 1000001 },
	}
}

func TestChapter9LeavesItsArguments(t *testing.T) {
	for _, spoil := range spoilsOfPlans() {
		w := newPlanWorld()
		spoil(&w)
		before := fmt.Sprint(w)
		g, s, a, b, numbers := w.given()
		for i := -1; i <= 4; i++ {
			callChapter9(g, s, a, i, numbers)
			callChapter9(g, s, b, i, numbers[:1])
		}
		impl.MergePlans(g, s, a, b)
		impl.MergePlans(g, s, b, a)
		if after := fmt.Sprint(w); after != before {
			t.Error("changed", after, before)
		}
	}
}

func TestChapter9DoesNotReadSpareCapacity(t *testing.T) {
	w := newPlanWorld()
	g, s, a, b, numbers := w.given()
	for n := range 4 {
		checkPlanText(t, g, s, a[:n])
		for m := range 4 {
			checkMerged(t, g, s, a[:n], b[:m])
		}
	}
	for _, u := range slices.Concat(a, b) {
		checkTableText(t, g, s, u)
		p := newTabulation(g, s, u)
		checkCellTexts(t, p)
		if len(p.cells) == 4 {
			checkReport(t, p, numbers)
			refusesReport(t, g, s, u, numbers[:3])
			refusesReport(t, g, s, u, w.numbers)
		}
		for _, count := range []int{0, 2, 4} {
			refusesTexts(t, g, s, impl.Table{Level: u.Level, Vars: u.Vars, Where: u.Where[:count], Sum: u.Sum})
		}
		refusesTexts(t, g, w.s, u)
		refusesTexts(t, impl.Geo{Parents: w.parents[:0]}, s, u)
	}
	refusesTexts(t, g, s, w.first[3])
	refusesPlan(t, g, s, w.first)
	refusesPlan(t, g, s, w.second)
	checkParseTable(t, g, s, "count level 0 by end")
	checkParseTable(t, g, s, "count level 3")
	checkParseTable(t, g, s, "sum end level 0 where end=0")
}

// listsInTables returns the lists in tables.
func listsInTables(plans ...[]impl.Table) [][]int {
	var lists [][]int
	for _, l := range plans {
		for _, u := range l {
			lists = append(lists, u.Vars, u.Where)
		}
	}
	return lists
}

// listsOfPlans returns the lists in what the functions return.
func listsOfPlans(g impl.Geo, s []impl.Variable, a, b []impl.Table, numbers []int) [][]int {
	merged, _ := impl.MergePlans(g, s, a, b)
	turned, _ := impl.MergePlans(g, s, b, a)
	twice, _ := impl.MergePlans(g, s, a, a)
	read, _, _ := impl.ParsePlan(g, s, textOfPlan(s, a))
	lists := listsInTables(merged, turned, twice, read)
	for _, u := range slices.Concat(a, b) {
		normal, _ := impl.NormalTable(g, s, u)
		again, _ := impl.NormalTable(g, s, u)
		one, _ := impl.ParseTable(g, s, textOfTable(s, u))
		p := newTabulation(g, s, u)
		report, _ := impl.ParseReport(g, s, u, p.textOfReport(slices.Repeat(numbers[:1], len(p.cells))))
		lists = append(append(lists, report), listsInTables([]impl.Table{normal, again, one})...)
	}
	return lists
}

// expectedOfPlans says what listsOfPlans must return.
func expectedOfPlans(g impl.Geo, s []impl.Variable, a, b []impl.Table, numbers []int) [][]int {
	merged, _ := mergedOf(s, a, b)
	turned, _ := mergedOf(s, b, a)
	twice, _ := mergedOf(s, a, a)
	lists := listsInTables(merged, turned, twice, a)
	for _, u := range slices.Concat(a, b) {
		normal := normalOf(s, u)
		report := slices.Repeat(numbers[:1], len(newTabulation(g, s, u).cells))
		lists = append(append(lists, report), listsInTables([]impl.Table{normal, normal, u})...)
	}
	for i := range lists {
		lists[i] = slices.Clone(lists[i])
	}
	return lists
}

// TestChapter9ResultsAreNew overwrites the lists of the results, one after the
// other, and what their capacity holds behind them, and looks at the others, at
// the arguments and at what the next calls return.
func TestChapter9ResultsAreNew(t *testing.T) {
	w := newPlanWorld()
	g, s, a, b, numbers := w.given()
	before, want := fmt.Sprint(w), expectedOfPlans(g, s, a, b, numbers)
	for range 3 {
		lists := listsOfPlans(g, s, a, b, numbers)
		expectLists(t, "results", lists, want)
		for i := range lists {
			clobber(lists[i], -99)
			expectLists(t, "results behind one that is overwritten", lists[i+1:], want[i+1:])
		}
		merged, _ := impl.MergePlans(g, s, a, nil)
		clobber(merged, impl.Table{Level: -99})
		read, _, _ := impl.ParsePlan(g, s, textOfPlan(s, b))
		clobber(read, impl.Table{Level: -99})
		if after := fmt.Sprint(w); after != before {
			t.Fatal("a result shares memory with an argument", after, before)
		}
	}
}

// TestChapter9ResultsStay overwrites the arguments after the calls.
func TestChapter9ResultsStay(t *testing.T) {
	w := newPlanWorld()
	g, s, a, b, numbers := w.given()
	lists, want := listsOfPlans(g, s, a, b, numbers), expectedOfPlans(g, s, a, b, numbers)
	for _, list := range append(w.lists, w.parents, w.numbers) {
		clobber(list, -99)
	}
	clobber(w.first, impl.Table{})
	clobber(w.second, impl.Table{})
	clobber(w.s, impl.Variable{})
	expectLists(t, "results kept", lists, want)
}

// TestArgumentsOfPlansAreOneList gives one list as several arguments.
func TestArgumentsOfPlansAreOneList(t *testing.T) {
	g, s, both := tree(0, 0), schemaOf("age3", "b2"), []int{0, 1}
	u := impl.Table{Level: 1, Vars: both, Where: both, Sum: 0}
	l := []impl.Table{u, u, countTable(s, 0)}
	checkTableText(t, g, s, u)
	checkPlanText(t, g, s, l)
	checkMerged(t, g, s, l, l)
	checkMerged(t, g, s, l, l[:1])
	for range 3 {
		merged, _ := impl.MergePlans(g, s, l, l)
		normal, _ := impl.NormalTable(g, s, u)
		for _, list := range append(listsInTables(merged), normal.Vars, normal.Where) {
			clobber(list, -99)
		}
	}
	if !slices.Equal(both, []int{0, 1}) || !sameTable(l[0], u) {
		t.Error("changed", both, l)
	}
}

func TestChapter9KeepsNoState(t *testing.T) {
	g, s := tree(0, 0, 1, 1), schemaOf("sex2", "age3")
	l := []impl.Table{{Level: 1, Vars: []int{1}, Where: []int{2, 7}, Sum: 0}, countTable(s, 2, 0), {Level: 1, Vars: []int{1}, Where: []int{2, 0}, Sum: 0}}
	p := newTabulation(g, s, l[0])
	for range 20 {
		impl.ParseTable(g, s, "count level 0 by sex where sex=0 age=0")
		impl.ParsePlan(g, s, "count level 0\nsum sex level 1\ncount level 0 where age=1,0\n")
		callChapter9(tree(0, 1, 0, 0), schemaOf("sex3", "age3"), l, 3, []int{2, 2})
		callChapter9(g, s, []impl.Table{countTable(s, 3), {Level: 1, Vars: []int{1}, Where: []int{3, 7}, Sum: 1}}, 2, []int{9, 9, 9, 9, 9, 9})
		checkTableText(t, g, s, l[0])
		checkPlanText(t, g, s, l)
		checkMerged(t, g, s, l, l[1:])
		checkCellTexts(t, p)
		checkReport(t, p, []int{1, 2, 3, -4, 5, 6})
	}
}
