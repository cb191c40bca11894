package tests

import (
	"fmt"
	"math/rand"
	"slices"
	"testing"

	"loop.example/g00908/impl"
)

// checkFollows asks whether each of two tables follows from the other.
func checkFollows(t *testing.T, g impl.Geo, s []impl.Variable, a, b impl.Table) {
	t.Helper()
	is, ok := impl.FollowsFrom(g, s, a, b)
	expectBool(t, fmt.Sprint("FollowsFrom ", g, s, a, b), is, ok, followsIn(g, s, a, b), true)
	is, ok = impl.FollowsFrom(g, s, b, a)
	expectBool(t, fmt.Sprint("FollowsFrom ", g, s, b, a), is, ok, followsIn(g, s, b, a), true)
}

// checkDerived derives the cells of the table of p from numbers for those of q,
// of which there need not be the right number.
func checkDerived(t *testing.T, p, q tabulation, numbers []int) {
	t.Helper()
	good := len(numbers) == len(q.cells) && followsIn(p.g, p.s, p.u, q.u)
	for _, n := range numbers {
		good = good && -1000000 <= n && n <= 1000000
	}
	var want []int
	if good {
		want = p.derivedFrom(q, numbers)
	}
	got, ok := impl.DeriveCells(p.g, p.s, p.u, q.u, numbers)
	expectInts(t, fmt.Sprintf("DeriveCells %.250s", fmt.Sprint(p.g, p.s, p.u, q.u, numbers)), got, ok, want, good)
}

// checkCounted derives the cells of the table of p from those that are counted
// for q, and compares them with those that are counted for p.
func checkCounted(t *testing.T, p, q tabulation, l []impl.Record) {
	t.Helper()
	call := fmt.Sprint("DeriveCells ", p.g, p.s, p.u, q.u, l)
	numbers, isCounted := impl.TableOf(p.g, p.s, q.u, l)
	want, ok := impl.TableOf(p.g, p.s, p.u, l)
	if !isCounted || !ok {
		t.Fatal("no table", call)
	}
	got, ok := impl.DeriveCells(p.g, p.s, p.u, q.u, numbers)
	if followsIn(p.g, p.s, p.u, q.u) {
		expectInts(t, call, got, ok, want, true)
	} else {
		expectInts(t, call, got, ok, nil, false)
	}
}

func TestFollowsFromLevelExamples(t *testing.T) {
	// The leaves of `uneven` have the depths 1, 2 and 2, those of `deep` the
	// depths 1, 1 and 3.
	flat, uneven, deep := tree(0, 0), tree(0, 0, 1, 1), tree(0, 0, 0, 2, 4)
	s := schemaOf("sex2", "age3")
	for _, c := range []struct {
		g     impl.Geo
		level int
		from  int
		want  bool
	}{
		{tree(), 0, 0, true},
		{flat, 0, 0, true}, {flat, 1, 1, true}, {flat, 0, 1, true}, {flat, 1, 0, false},
		{uneven, 0, 1, true}, {uneven, 1, 1, true}, {uneven, 2, 2, true}, {uneven, 1, 0, false}, {uneven, 2, 1, false}, {uneven, 2, 0, false},
		{uneven, 0, 2, false}, {uneven, 1, 2, false}, // the leaf 2 has an area of the first level and none of the second
		{deep, 0, 1, true}, {deep, 0, 2, false}, {deep, 0, 3, false}, {deep, 1, 2, false}, {deep, 1, 3, false},
		{deep, 2, 3, true}, // the leaves 1 and 3 lie above both levels
		{deep, 3, 2, false}, {deep, 2, 1, false}, {deep, 3, 3, true},
		{chain(3), 0, 2, true}, {chain(3), 0, 1, true}, {chain(3), 1, 2, true},
		{chain(3), 1, 0, false}, {chain(3), 2, 0, false}, {chain(3), 2, 1, false}, // though all of them count the same
	} {
		for _, vars := range setsOfVariables(2) {
			a, b := countTable(s, c.level, vars...), countTable(s, c.from, vars...)
			is, ok := impl.FollowsFrom(c.g, s, a, b)
			expectBool(t, fmt.Sprint("FollowsFrom ", c.g, a, b), is, ok, c.want, true)
			checkFollows(t, c.g, s, a, b)
		}
	}
}

// followsCases are texts of tables of a level that is the same or greater for
// the other one, and whether the first follows.
func followsCases() []struct {
	a, b string
	want bool
} {
	return []struct {
		a, b string
		want bool
	}{
		{"count level 0", "count level 0", true}, {"count level 0", "count level 1", true}, {"count level 1", "count level 0", false},

		{"count level 0 by sex", "count level 1 by sex,age", true}, {"count level 0 by age", "count level 1 by sex,age", true}, {"count level 0", "count level 1 by sex,age", true}, {"count level 1 by sex,age", "count level 1 by sex,age", true},
		{"count level 0 by sex,age", "count level 0 by sex", false}, {"count level 0 by sex,age", "count level 0 by age", false}, {"count level 0 by sex", "count level 0 by age", false}, {"count level 0 by sex", "count level 0", false}, {"count level 1 by sex", "count level 0 by sex", false},

		{"count level 0 where age=1", "count level 0 by age", true}, {"count level 0 where age=1", "count level 0 where age=1", true}, {"count level 0 where age=1", "count level 0 by age where age=1", true}, {"count level 0 where age=1", "count level 0 by age where age=1,2", true}, {"count level 0 where age=1", "count level 0 by age where age=0,1,2", true}, {"count level 0 by age where age=0,2", "count level 1 by age where age=0,2", true},
		{"count level 0 where age=1", "count level 0", false}, {"count level 0 where age=1", "count level 0 by sex", false}, {"count level 0 where age=1", "count level 0 where age=1,2", false}, {"count level 0 where age=1", "count level 0 by sex where age=1,2", false}, {"count level 0 where age=1,2", "count level 0 where age=1", false}, {"count level 0 where age=1,2", "count level 0 by age where age=1", false}, {"count level 0 where age=0,1", "count level 0 by age where age=1,2", false}, {"count level 0 where age=0", "count level 0 by age where age=1,2", false}, {"count level 0", "count level 0 by age where age=1,2", false}, {"count level 0", "count level 0 where age=1", false},
		{"count level 0", "count level 0 where age=0,1,2", true}, {"count level 0 where age=0,1,2", "count level 0", true}, {"count level 0", "count level 0 by age where age=0,1,2", true}, {"count level 0 where age=0,1,2", "count level 0 by age", true}, {"count level 0 where age=0,1,2", "count level 0 by age where age=0,1", false}, {"count level 0 where sex=0,1 age=1", "count level 0 where age=1", true},
		{"count level 0 where sex=0 age=1", "count level 0 by age where sex=0", true}, {"count level 0 where sex=0 age=1", "count level 0 by sex,age", true}, {"count level 0 where sex=0 age=1", "count level 0 by sex where age=1", true}, {"count level 0 where sex=0 age=1", "count level 0 by sex where sex=0 age=1", true},
		{"count level 0 where sex=0 age=1", "count level 0 by age where sex=1", false}, {"count level 0 where sex=0 age=1", "count level 0 by age", false}, {"count level 0 where sex=0 age=1", "count level 0 by sex", false}, {"count level 0 by sex where sex=0", "count level 0 by sex,age where age=0,1", false}, {"count level 0 where sex=0", "count level 0 where sex=0,1", false}, {"count level 0 where sex=0", "count level 0 by sex where sex=0,1", true},

		{"sum age level 0", "sum age level 0", true}, {"sum age level 0", "sum age level 1 by sex", true}, {"sum age level 0", "sum age level 0 by age", true}, {"sum age level 0 where age=1,2", "sum age level 0 by age", true},
		{"sum age level 0", "count level 0 by age", true}, {"sum age level 0", "count level 1 by sex,age", true}, {"sum age level 0 by sex", "count level 0 by sex,age", true}, {"sum age level 0 by age", "count level 0 by age", true}, {"sum age level 0 where age=1,2", "count level 0 by age where age=1,2", true}, {"sum age level 0 where age=1", "count level 0 by age", true}, {"sum sex level 0", "count level 0 by sex,age", true},
		{"sum age level 0", "count level 0", false}, {"sum age level 0", "count level 0 by sex", false}, {"sum sex level 0", "count level 0 by age", false}, {"sum age level 0", "count level 0 by age where age=1,2", false},
		{"count level 0", "sum age level 0", false}, {"count level 0", "sum age level 0 by age", false}, {"count level 0 by age", "sum age level 0 by sex,age", false}, {"sum sex level 0", "sum age level 0", false}, {"sum sex level 0", "sum age level 0 by sex", false}, {"sum sex level 0", "sum age level 0 by sex,age", false}, {"sum age level 0", "sum sex level 0 by sex,age", false},
	}
}

func TestFollowsFromExamples(t *testing.T) {
	g, s := tree(0, 0), schemaOf("sex2", "age3")
	for _, c := range followsCases() {
		a, b := written(g, s, c.a), written(g, s, c.b)
		is, ok := impl.FollowsFrom(g, s, a, b)
		expectBool(t, fmt.Sprintf("FollowsFrom %q %q", c.a, c.b), is, ok, c.want, true)
		checkFollows(t, g, s, a, b)
		// Areas below both levels change nothing.
		is, ok = impl.FollowsFrom(tree(0, 0, 0, 2, 2), s, a, b)
		expectBool(t, fmt.Sprintf("FollowsFrom %q %q with more areas", c.a, c.b), is, ok, c.want, true)
	}
}

// TestFollowsFromAllLevels has all geographies of up to 6 areas.
func TestFollowsFromAllLevels(t *testing.T) {
	s := schemaOf("b2")
	for _, g := range append(fewAreas(6), largeGeos()...) {
		for level := range depthIn(g) + 1 {
			for from := range level + 1 {
				checkFollows(t, g, s, countTable(s, level), countTable(s, from))
			}
		}
	}
}

func TestFollowsFromAllSmallTables(t *testing.T) { checkSmallPairs(t, checkFollows) }

func TestFollowsFromRandomTables(t *testing.T) {
	r := rand.New(rand.NewSource(1102))
	for _, g := range append(largeGeos(), unevenGeos()...) {
		for _, s := range append(smallSchemas(), largestSchema(), randomSchema(r)) {
			for range 5 {
				u := randomTable(r, g, s)
				checkFollows(t, g, s, u, u)
				checkFollows(t, g, s, u, randomTable(r, g, s))
				checkFollows(t, g, s, u, otherWriting(r, s, u))
				w := weaker(r, g, s, u)
				checkFollows(t, g, s, w, u)
				checkFollows(t, g, s, weaker(r, g, s, w), u)
				checkFollows(t, g, s, changedTable(r, g, s, w), u)
				checkFollows(t, g, s, w, changedTable(r, g, s, u))
			}
		}
	}
}

// TestFollowingIsTransitive has tables that follow from themselves, and from all
// from which a table follows that they follow from.
func TestFollowingIsTransitive(t *testing.T) {
	r := rand.New(rand.NewSource(1103))
	follows := func(g impl.Geo, s []impl.Variable, a, b impl.Table) bool {
		is, ok := impl.FollowsFrom(g, s, a, b)
		if !ok {
			t.Fatal("FollowsFrom fails", g, s, a, b)
		}
		return is
	}
	for range 60 {
		g, s := randomGeo(r, 1+r.Intn(10), 1+r.Intn(4)), randomSchema(r)
		l := relatedPlan(r, g, s, 12)
		for _, a := range l {
			if !follows(g, s, a, a) {
				t.Error("does not follow from itself", g, s, a)
			}
			for _, b := range l {
				for _, c := range l {
					if follows(g, s, a, b) && follows(g, s, b, c) && !follows(g, s, a, c) {
						t.Error("does not follow", g, s, a, b, c)
					}
				}
			}
		}
	}
}

func TestDeriveCellsExamples(t *testing.T) {
	g, s := tree(0, 0), schemaOf("sex2", "age3")
	numbers := []int{1, 2, 3, 4, 5, 6, 7, 8, 9, 10, 11, 12}
	for _, c := range []struct {
		text, from string
		want       []int
	}{
		{"count level 1 by sex,age", "count level 1 by sex,age", numbers},
		{"count level 0", "count level 1 by sex,age", []int{78}},
		{"count level 1", "count level 1 by sex,age", []int{21, 57}},
		{"count level 0 by sex", "count level 1 by sex,age", []int{30, 48}},
		{"count level 0 by age", "count level 1 by sex,age", []int{22, 26, 30}},
		{"count level 0 by age where sex=1", "count level 1 by sex,age", []int{14, 16, 18}},
		{"count level 0 by age where age=0,2", "count level 1 by sex,age", []int{22, 0, 30}},
		{"count level 1 where sex=0 age=1,2", "count level 1 by sex,age", []int{5, 17}},
		{"count level 0 by sex,age", "count level 1 by sex,age", []int{8, 10, 12, 14, 16, 18}},
		{"sum age level 0", "count level 1 by sex,age", []int{86}},
		{"sum sex level 1", "count level 1 by sex,age", []int{15, 33}},
		{"sum age level 0 by age", "count level 1 by sex,age", []int{0, 26, 60}},
		{"sum age level 1 by sex where age=2", "count level 1 by sex,age", []int{6, 12, 18, 24}},
		{"sum sex level 0 by age where sex=0", "count level 1 by sex,age", []int{0, 0, 0}},
		{"sum age level 0 by sex", "sum age level 1 by sex,age", []int{30, 48}}, // the cells are sums of ages already
		{"sum age level 1 where age=2", "sum age level 1 by sex,age", []int{9, 21}},
		{"sum sex level 0 by age where sex=1", "sum sex level 1 by sex,age", []int{14, 16, 18}},
		{"count level 0 where age=1", "count level 1 by sex,age where age=1,2", []int{26}},
		{"count level 0 where age=0,1,2", "count level 1 by sex,age", []int{78}},
	} {
		a, b := written(g, s, c.text), written(g, s, c.from)
		got, ok := impl.DeriveCells(g, s, a, b, numbers)
		expectInts(t, fmt.Sprintf("DeriveCells %q %q", c.text, c.from), got, ok, c.want, true)
		checkDerived(t, newTabulation(g, s, a), newTabulation(g, s, b), numbers)
	}
}

// TestDeriveCellsAboveALeaf has the leaves 2, 4 and 5, of the depths 1, 2 and 3.
func TestDeriveCellsAboveALeaf(t *testing.T) {
	g, s := tree(0, 0, 1, 1, 3), schemaOf("sex2")
	l := []impl.Record{person(2, 0, 1), person(4, 0, 1), person(5, 0, 0), person(5, 0, 1)}
	for level, cells := range [][]int{{1, 3}, {1, 2, 0, 1}, {1, 1, 0, 1}, {1, 1}} {
		q := newTabulation(g, s, countTable(s, level, 0))
		expectInts(t, fmt.Sprint("the cells of level ", level), q.sums(l), true, cells, true)
		for to := range 4 {
			for _, u := range []impl.Table{countTable(s, to, 0), countTable(s, to), {Level: to, Where: []int{2}, Sum: -1}, {Level: to, Where: []int{0}, Sum: 0}} {
				checkCounted(t, newTabulation(g, s, u), q, l)
			}
		}
	}
	cells, ok := impl.DeriveCells(g, s, countTable(s, 0, 0), countTable(s, 1, 0), []int{1, 2, 0, 1})
	expectInts(t, "DeriveCells of level 0", cells, ok, []int{1, 3}, true)
	cells, ok = impl.DeriveCells(g, s, countTable(s, 0, 0), countTable(s, 2, 0), []int{1, 1, 0, 1})
	expectInts(t, "DeriveCells without the leaf 2", cells, ok, nil, false)
}

// TestDerivedCellsAreCounted says half of promise 11, for all pairs of tables.
func TestDerivedCellsAreCounted(t *testing.T) {
	r := rand.New(rand.NewSource(1104))
	for _, g := range fewAreas(4) {
		s := schemaOf("b2")
		l := randomSurvey(r, g, s, 20)
		tables := tablesWith(g, s, allWheres(s))
		for _, a := range tables {
			for _, b := range tables {
				checkCounted(t, newTabulation(g, s, a), newTabulation(g, s, b), l)
			}
		}
	}
	s := schemaOf("sex2", "age3")
	for _, g := range []impl.Geo{tree(), tree(0, 0, 1)} {
		l := randomSurvey(r, g, s, 30)
		tables := tablesWith(g, s, [][]int{{0, 0}, {0, 7}, {1, 0}, {0, 6}, {0, 4}, {2, 3}})
		for _, a := range tables {
			for _, b := range tables {
				checkCounted(t, newTabulation(g, s, a), newTabulation(g, s, b), l)
			}
		}
	}
}

func TestDerivedCellsOfRandomTablesAreCounted(t *testing.T) {
	r := rand.New(rand.NewSource(1105))
	for range 1500 {
		g, s := randomGeo(r, 1+r.Intn(30), 1+r.Intn(6)), randomSchema(r)
		u, l := randomTable(r, g, s), randomSurvey(r, g, s, r.Intn(41))
		w := weaker(r, g, s, u)
		q := newTabulation(g, s, u)
		checkCounted(t, newTabulation(g, s, w), q, l)
		checkCounted(t, newTabulation(g, s, weaker(r, g, s, w)), q, l)
		checkCounted(t, newTabulation(g, s, otherWriting(r, s, u)), q, l)
		checkCounted(t, newTabulation(g, s, randomTable(r, g, s)), q, l)
	}
}

func TestDeriveRandomNumbers(t *testing.T) {
	r := rand.New(rand.NewSource(1106))
	for _, g := range append(largeGeos(), unevenGeos()...) {
		for _, s := range append(smallSchemas(), largestSchema()) {
			q := newTabulation(g, s, randomTable(r, g, s))
			numbers := randomAmounts(r, len(q.cells))
			for range 3 {
				checkDerived(t, newTabulation(g, s, weaker(r, g, s, q.u)), q, numbers)
			}
		}
	}
}

func TestDeriveCellsCountsNumbers(t *testing.T) {
	g, s := tree(0, 0), schemaOf("sex2", "age3")
	for _, u := range tablesWith(g, s, [][]int{{0, 0}, {0, 6}}) {
		q := newTabulation(g, s, u)
		for n := range 2*len(q.cells) + 2 {
			checkDerived(t, q, q, slices.Repeat([]int{7}, n))
			checkDerived(t, newTabulation(g, s, countTable(s, 0)), q, slices.Repeat([]int{7}, n))
		}
		for _, n := range []int{600, 601, 5000} {
			checkDerived(t, q, q, make([]int, n))
		}
	}
}

// TestDeriveCellsLooksAtEachNumber places a number everywhere, also where it is
// not added.
func TestDeriveCellsLooksAtEachNumber(t *testing.T) {
	g, s := tree(0, 0), schemaOf("sex2", "age3")
	from := countTable(s, 1, 0, 1)
	q := newTabulation(g, s, from)
	for place := range q.cells {
		for _, x := range append(extremeInts(), 999999, -999999, 1000000, -1000000, 1000001, -1000001, 2000000, 1<<32, -1<<32) {
			numbers := slices.Repeat([]int{3}, len(q.cells))
			numbers[place] = x
			for _, text := range []string{"count level 1 by sex,age", "count level 0", "count level 1 where sex=0 age=1", "sum age level 0 by sex"} {
				checkDerived(t, newTabulation(g, s, written(g, s, text)), q, numbers)
			}
		}
	}
}

// TestDerivedCellsMayBeLarge has results beyond the numbers that are taken.
func TestDerivedCellsMayBeLarge(t *testing.T) {
	g, s := star(30), schemaOf("a8", "b2")
	for _, n := range []int{1000000, -1000000} {
		numbers := slices.Repeat([]int{n}, 464)
		cells, ok := impl.DeriveCells(g, s, countTable(s, 0), countTable(s, 1, 0, 1), numbers)
		expectInts(t, "DeriveCells", cells, ok, []int{464 * n}, true)
		cells, ok = impl.DeriveCells(g, s, impl.Table{Where: []int{0, 0}}, countTable(s, 1, 0, 1), numbers)
		expectInts(t, "DeriveCells of a sum", cells, ok, []int{29 * 2 * 28 * n}, true)
	}
}

func TestDeriveCellsRefusesOtherTables(t *testing.T) {
	g, s := tree(0, 0), schemaOf("sex2", "age3")
	for _, c := range followsCases() {
		a, b := written(g, s, c.a), written(g, s, c.b)
		numbers := make([]int, len(newTabulation(g, s, b).cells))
		cells, ok := impl.DeriveCells(g, s, a, b, numbers)
		if ok != c.want || !ok && len(cells) > 0 {
			t.Errorf("DeriveCells %q %q is %v %v", c.a, c.b, cells, ok)
		}
	}
}
