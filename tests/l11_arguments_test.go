package tests

import (
	"fmt"
	"math/rand"
	"slices"
	"testing"

	"loop.example/g00908/impl"
)

// refusesLattice calls all functions with a table that is not valid, or with a
// geography or a schema that is not. The other table is valid or not.
func refusesLattice(t *testing.T, g impl.Geo, s []impl.Variable, u, other impl.Table) {
	t.Helper()
	for _, pair := range [][2]impl.Table{{u, u}, {u, other}, {other, u}} {
		call := fmt.Sprintf("%.200s", fmt.Sprint(g, s, pair))
		is, ok := impl.FollowsFrom(g, s, pair[0], pair[1])
		expectBool(t, "FollowsFrom "+call, is, ok, false, false)
		join, ok := impl.JoinTables(g, s, pair[0], pair[1])
		expectTable(t, "JoinTables "+call, join, ok, impl.Table{}, false)
		for _, numbers := range [][]int{nil, {0}, {1, 2}, {1, 2, 3}} {
			cells, ok := impl.DeriveCells(g, s, pair[0], pair[1], numbers)
			expectInts(t, "DeriveCells "+call, cells, ok, nil, false)
		}
	}
	for _, l := range [][]impl.Table{nil, {other}, {other, other}} {
		i, ok := impl.CheapestSource(g, s, l, u)
		expectInt(t, fmt.Sprintf("CheapestSource %.200s", fmt.Sprint(g, s, l, u)), i, ok, 0, false)
	}
	refusesLatticeOf(t, g, s, []impl.Table{u}, other)
}

// refusesLatticeOf calls the functions with a list that is no plan, or with a
// geography or a schema that is not valid.
func refusesLatticeOf(t *testing.T, g impl.Geo, s []impl.Variable, l []impl.Table, other impl.Table) {
	t.Helper()
	call := fmt.Sprintf("%.200s", fmt.Sprint(g, s, l))
	sources, ok := impl.SourcesIn(g, s, l)
	if len(sources) > 0 || ok {
		t.Error("SourcesIn", call, sources, ok)
	}
	bases, ok := impl.BaseTables(g, s, l)
	expectInts(t, "BaseTables "+call, bases, ok, nil, false)
	sizes, ok := impl.PlanSizes(g, s, l)
	expectInts(t, "PlanSizes "+call, sizes, ok, nil, false)
	chain, ok := impl.LongestChain(g, s, l)
	expectInts(t, "LongestChain "+call, chain, ok, nil, false)
	i, ok := impl.CheapestSource(g, s, l, other)
	expectInt(t, "CheapestSource "+call, i, ok, 0, false)
	for _, m := range [][]impl.Table{nil, l, {other}} {
		covers, ok := impl.CoversPlan(g, s, l, m)
		expectBool(t, "CoversPlan "+call, covers, ok, false, false)
		covers, ok = impl.CoversPlan(g, s, m, l)
		expectBool(t, "CoversPlan the other way "+call, covers, ok, false, false)
	}
}

// TestChapter11RefusesInvalidGeos has tables that are valid for other
// geographies, and tables that are valid for none.
func TestChapter11RefusesInvalidGeos(t *testing.T) {
	s := schemaOf("sex2", "age3")
	for _, g := range invalidGeos() {
		last := max(len(g.Parents)-1, 0)
		for _, u := range []impl.Table{countTable(s, 0), countTable(s, 1, 0), {Where: []int{3, 7}, Sum: 1}, {Level: last, Where: []int{0, 0}}, {}} {
			refusesLattice(t, g, s, u, countTable(s, 0))
			refusesLattice(t, g, nil, u, impl.Table{})
		}
		refusesLatticeOf(t, g, s, nil, countTable(s, 0))
	}
}

func TestChapter11RefusesInvalidSchemas(t *testing.T) {
	for _, s := range invalidSchemas() {
		zero := make([]int, len(s))
		for _, g := range []impl.Geo{tree(), tree(0, 0)} {
			for _, u := range []impl.Table{{Sum: -1}, countTable(s, 0), countTable(s, 1, 0), {Where: zero}, {Where: []int{0}, Sum: -1}, {Vars: []int{0}, Where: slices.Repeat([]int{1}, len(s))}} {
				refusesLattice(t, g, s, u, countTable(s, 0))
			}
			refusesLatticeOf(t, g, s, nil, countTable(s, 0))
		}
	}
}

// TestChapter11RefusesWrongTables has a wrong table alone and in the first, a
// middle and the last place of a plan.
func TestChapter11RefusesWrongTables(t *testing.T) {
	r := rand.New(rand.NewSource(1130))
	for _, s := range [][]impl.Variable{schemaOf("b2"), schemaOf("sex2", "age3"), largestSchema()} {
		for _, g := range unevenGeos()[:5] {
			good := relatedPlan(r, g, s, 4)
			for _, u := range wrongTables(g, s) {
				refusesLattice(t, g, s, u, good[r.Intn(4)])
				for _, place := range []int{0, 2, 4} {
					refusesLatticeOf(t, g, s, slices.Insert(slices.Clone(good), place, u), good[0])
				}
			}
		}
	}
}

// TestChapter11CountsTables has plans of all lengths about MaxPlan.
func TestChapter11CountsTables(t *testing.T) {
	g, s := tree(0, 0), schemaOf("sex2", "age3")
	tables := fewTables(g, s, 30)
	for n := range 31 {
		if n > 20 {
			refusesLatticeOf(t, g, s, tables[:n], tables[0])
			refusesLatticeOf(t, g, s, slices.Repeat(tables[:1], n), tables[0])
			continue
		}
		checkLattice(t, g, s, tables[:n])
		checkLattice(t, g, s, slices.Repeat(tables[:1], n))
		checkSources(t, g, s, tables[:n], tables[0])
	}
	for _, n := range []int{40, 1000, 20000} {
		refusesLatticeOf(t, g, s, slices.Repeat(tables[:1], n), tables[0])
	}
}

// TestChapter11AcceptsAllNumbers fails also by the panic of a call.
func TestChapter11AcceptsAllNumbers(t *testing.T) {
	g, s := tree(0, 0, 1, 1), schemaOf("age3", "b2")
	numbers := append(extremeInts(), 3, 4, 5, 6, 7, 8, 600, 1<<32, 1<<32+1, 1<<62, -1<<62)
	for _, x := range numbers {
		for _, y := range numbers {
			acceptsLatticeOf(t, g, s, impl.Table{Level: x, Where: []int{0, 0}, Sum: y})
			acceptsLatticeOf(t, g, s, impl.Table{Vars: []int{x, y}, Where: []int{7, 3}, Sum: -1})
			acceptsLatticeOf(t, g, s, impl.Table{Level: 1, Vars: []int{1}, Where: []int{x, y}, Sum: 0})
			l := []impl.Table{countTable(s, 1, 0), countTable(s, 0)}
			callChapter11(impl.Geo{Parents: []int{-1, x, y}}, s, l, l, []int{x, y})
			callChapter11(impl.Geo{Parents: []int{x, y}}, s, l, l, []int{y})
			callChapter11(g, []impl.Variable{{Name: "a", Levels: x}, {Name: "b", Levels: y}}, l, l, []int{x, x, y, y})
		}
	}
}

// acceptsLatticeOf calls the functions with a table that is good or not.
func acceptsLatticeOf(t *testing.T, g impl.Geo, s []impl.Variable, u impl.Table) {
	t.Helper()
	all := countTable(s, 1, 0, 1)
	if !tableIsGood(g, s, u) {
		refusesLattice(t, g, s, u, all)
		return
	}
	l := []impl.Table{countTable(s, 0), u, all, u}
	for _, other := range l {
		checkFollows(t, g, s, u, other)
		checkJoin(t, g, s, u, other)
		checkSources(t, g, s, l, other)
	}
	checkLattice(t, g, s, l)
	q := newTabulation(g, s, all)
	checkDerived(t, newTabulation(g, s, u), q, slices.Repeat([]int{4}, len(q.cells)))
}

// callChapter11 calls every function of chapter 11 with the arguments.
func callChapter11(g impl.Geo, s []impl.Variable, l, m []impl.Table, numbers []int) {
	for _, plan := range [][]impl.Table{l, m} {
		impl.SourcesIn(g, s, plan)
		impl.BaseTables(g, s, plan)
		impl.PlanSizes(g, s, plan)
		impl.LongestChain(g, s, plan)
	}
	impl.CoversPlan(g, s, l, m)
	impl.CoversPlan(g, s, m, l)
	for _, a := range slices.Concat(l, m) {
		impl.CheapestSource(g, s, l, a)
		impl.CheapestSource(g, s, m, a)
		for _, b := range slices.Concat(l, m) {
			impl.FollowsFrom(g, s, a, b)
			impl.JoinTables(g, s, a, b)
			impl.DeriveCells(g, s, a, b, numbers)
			n, _ := impl.CellCount(g, s, b)
			impl.DeriveCells(g, s, a, b, make([]int, n))
		}
	}
}

func TestChapter11LeavesItsArguments(t *testing.T) {
	for _, spoil := range spoilsOfPlans() {
		w := newPlanWorld()
		spoil(&w)
		before := fmt.Sprint(w)
		g, s, a, b, numbers := w.given()
		callChapter11(g, s, a, b, numbers)
		callChapter11(g, s, b, a, numbers[:1])
		callChapter11(g, s, w.first, w.second, numbers[:2])
		if after := fmt.Sprint(w); after != before {
			t.Error("changed", after, before)
		}
	}
}

func TestChapter11DoesNotReadSpareCapacity(t *testing.T) {
	w := newPlanWorld()
	g, s, a, b, numbers := w.given()
	for n := range 4 {
		checkLattice(t, g, s, a[:n])
		checkLattice(t, g, s, b[:n])
		for m := range 4 {
			checkCovers(t, g, s, a[:n], b[:m])
			for _, u := range b[:m] {
				checkSources(t, g, s, a[:n], u)
			}
		}
	}
	for _, u := range slices.Concat(a, b) {
		q := newTabulation(g, s, u)
		for _, other := range slices.Concat(a, b) {
			checkFollows(t, g, s, u, other)
			checkJoin(t, g, s, u, other)
			for n := range 5 {
				checkDerived(t, newTabulation(g, s, other), q, numbers[:n])
			}
		}
		for _, count := range []int{0, 2, 4} {
			refusesLattice(t, g, s, impl.Table{Level: u.Level, Vars: u.Vars, Where: u.Where[:count], Sum: u.Sum}, a[0])
		}
		refusesLattice(t, g, w.s, u, a[0])
		refusesLattice(t, impl.Geo{Parents: w.parents[:0]}, s, u, a[0])
	}
	refusesLattice(t, g, s, w.first[3], a[0])
	refusesLatticeOf(t, g, s, w.first, a[0])
	refusesLatticeOf(t, g, s, w.second, a[0])
}

// listsOfLattice returns the lists in what the functions return.
func listsOfLattice(g impl.Geo, s []impl.Variable, l []impl.Table) [][]int {
	lists, _ := impl.SourcesIn(g, s, l)
	again, _ := impl.SourcesIn(g, s, l)
	lists = append(lists, again...)
	add := func(list []int, _ bool) { lists = append(lists, list) }
	for range 2 {
		add(impl.BaseTables(g, s, l))
		add(impl.PlanSizes(g, s, l))
		add(impl.LongestChain(g, s, l))
	}
	for _, a := range l {
		for _, b := range l {
			numbers := slices.Repeat([]int{5}, len(newTabulation(g, s, b).cells))
			add(impl.DeriveCells(g, s, a, b, numbers))
			add(numbers, true)
			join, _ := impl.JoinTables(g, s, a, b)
			lists = append(lists, join.Vars, join.Where)
		}
	}
	return lists
}

// expectedOfLattice says what listsOfLattice must return.
func expectedOfLattice(g impl.Geo, s []impl.Variable, l []impl.Table) [][]int {
	var lists [][]int
	for range 2 {
		for _, u := range l {
			lists = append(lists, sourcesOf(g, s, l, u))
		}
	}
	for range 2 {
		lists = append(lists, basesOf(g, s, l), sizesIn(g, s, l), chainIn(g, s, l))
	}
	for _, a := range l {
		for _, b := range l {
			p, q := newTabulation(g, s, a), newTabulation(g, s, b)
			numbers := slices.Repeat([]int{5}, len(q.cells))
			var derived []int
			if followsIn(g, s, a, b) {
				derived = p.derivedFrom(q, numbers)
			}
			join, _ := joinIn(g, s, a, b)
			lists = append(lists, derived, numbers, join.Vars, join.Where)
		}
	}
	return lists
}

// latticeWorld is a plan of the tables of a world, many of which follow from
// others, with elements behind each list.
func latticeWorld() (planWorld, []impl.Table) {
	w := newPlanWorld()
	_, s, a, b, _ := w.given()
	all := countTable(s, 1, 1, 2)
	w.lists = append(w.lists, all.Vars, all.Where)
	return w, slices.Concat([]impl.Table{all}, a, []impl.Table{all}, b)
}

// TestChapter11ResultsAreNew overwrites the lists of the results, one after the
// other, and what their capacity holds behind them, and looks at the others, at
// the arguments and at what the next calls return.
func TestChapter11ResultsAreNew(t *testing.T) {
	w, l := latticeWorld()
	g, s, _, _, _ := w.given()
	before, want := fmt.Sprint(w, l), expectedOfLattice(g, s, l)
	for range 3 {
		lists := listsOfLattice(g, s, l)
		expectLists(t, "results", lists, want)
		for i := range lists {
			clobber(lists[i], -99)
			expectLists(t, "results behind one that is overwritten", lists[i+1:], want[i+1:])
		}
		sources, _ := impl.SourcesIn(g, s, l)
		clobber(sources, nil)
		if after := fmt.Sprint(w, l); after != before {
			t.Fatal("a result shares memory with an argument", after, before)
		}
	}
}

// TestChapter11ResultsStay overwrites the arguments after the calls.
func TestChapter11ResultsStay(t *testing.T) {
	w, l := latticeWorld()
	g, s, _, _, _ := w.given()
	lists, want := listsOfLattice(g, s, l), expectedOfLattice(g, s, l)
	for _, list := range append(w.lists, w.parents, w.numbers) {
		clobber(list, -99)
	}
	clobber(w.first, impl.Table{})
	clobber(w.second, impl.Table{})
	clobber(w.s, impl.Variable{})
	clobber(l, impl.Table{})
	expectLists(t, "results kept", lists, want)
}

// TestArgumentsOfLatticesAreOneList gives one list as several arguments.
func TestArgumentsOfLatticesAreOneList(t *testing.T) {
	g, s, both := tree(0, 0), schemaOf("age3", "b2"), []int{0, 1}
	u := impl.Table{Level: 1, Vars: both, Where: both, Sum: 0}
	l := []impl.Table{u, u, countTable(s, 0), countTable(s, 1, 0, 1)}
	checkLattice(t, g, s, l)
	checkSources(t, g, s, l, u)
	checkCovers(t, g, s, l, l[:1])
	checkJoin(t, g, s, u, u)
	checkFollows(t, g, s, u, u)
	p := newTabulation(g, s, impl.Table{Vars: both[:1], Where: both, Sum: 0})
	one := newTabulation(g, s, impl.Table{Level: 1, Vars: nil, Where: both, Sum: -1})
	for range 3 {
		checkDerived(t, one, one, both)
		checkDerived(t, p, newTabulation(g, s, u), slices.Repeat([]int{2}, 12))
		for _, list := range listsOfLattice(g, s, l) {
			clobber(list, -99)
		}
		cells, _ := impl.DeriveCells(g, s, one.u, one.u, both)
		clobber(cells, -99)
	}
	if !slices.Equal(both, []int{0, 1}) || !sameTable(l[0], u) {
		t.Error("changed", both, l)
	}
}

func TestChapter11KeepsNoState(t *testing.T) {
	g, s := tree(0, 0, 1, 1), schemaOf("sex2", "age3")
	l := []impl.Table{countTable(s, 1, 0, 1), {Level: 1, Vars: []int{1}, Where: []int{2, 7}, Sum: 0}, countTable(s, 2, 0), {Level: 1, Vars: []int{1}, Where: []int{2, 0}, Sum: 0}, countTable(s, 0)}
	p, q := newTabulation(g, s, l[1]), newTabulation(g, s, l[0])
	for range 20 {
		callChapter11(tree(0, 1, 0, 0), schemaOf("sex3", "age3"), l, l[:2], []int{2, 2})
		callChapter11(g, s, []impl.Table{countTable(s, 3)}, []impl.Table{{Level: 1, Vars: []int{1}, Where: []int{3, 7}, Sum: 1}, l[0]}, []int{9, 9, 9, 9, 9, 9})
		checkLattice(t, g, s, l)
		checkSources(t, g, s, l, countTable(s, 0, 0))
		checkCovers(t, g, s, l[:1], l)
		checkFollows(t, g, s, l[1], l[0])
		checkJoin(t, g, s, l[1], l[4])
		checkDerived(t, p, q, []int{1, 2, 3, -4, 5, 6, 7, 8, 9, 10, 11, 12})
	}
}
