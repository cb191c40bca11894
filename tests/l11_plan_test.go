package tests

import (
	"fmt"
	"math/rand"
	"slices"
	"testing"

	"loop.example/g00908/impl"
)

// checkLattice calls the functions with one plan.
func checkLattice(t *testing.T, g impl.Geo, s []impl.Variable, l []impl.Table) {
	t.Helper()
	call := fmt.Sprintf("%.250s", fmt.Sprint(g, s, l))
	sources, ok := impl.SourcesIn(g, s, l)
	var want [][]int
	for _, u := range l {
		want = append(want, sourcesOf(g, s, l, u))
	}
	expectLists(t, "SourcesIn "+call, sources, want)
	if !ok {
		t.Error("SourcesIn fails", call)
	}
	sizes, ok := impl.PlanSizes(g, s, l)
	expectInts(t, "PlanSizes "+call, sizes, ok, sizesIn(g, s, l), true)
	bases, ok := impl.BaseTables(g, s, l)
	expectInts(t, "BaseTables "+call, bases, ok, basesOf(g, s, l), true)
	chain, ok := impl.LongestChain(g, s, l)
	expectInts(t, "LongestChain "+call, chain, ok, chainIn(g, s, l), true)
	checkCovers(t, g, s, l, l)
}

// checkSources calls the functions with a plan and a table.
func checkSources(t *testing.T, g impl.Geo, s []impl.Variable, l []impl.Table, u impl.Table) {
	t.Helper()
	want, wantOK := cheapestIn(g, s, l, u)
	i, ok := impl.CheapestSource(g, s, l, u)
	expectInt(t, fmt.Sprintf("CheapestSource %.250s", fmt.Sprint(g, s, l, u)), i, ok, want, wantOK)
	checkCovers(t, g, s, l, []impl.Table{u})
	checkCovers(t, g, s, []impl.Table{u}, l)
}

// checkCovers asks whether one plan covers another one.
func checkCovers(t *testing.T, g impl.Geo, s []impl.Variable, l, m []impl.Table) {
	t.Helper()
	covers, ok := impl.CoversPlan(g, s, l, m)
	expectBool(t, fmt.Sprintf("CoversPlan %.250s", fmt.Sprint(g, s, l, m)), covers, ok, coversIn(g, s, l, m), true)
}

// latticeCase is a plan and what the functions must return for it.
type latticeCase struct {
	texts   []string
	sources [][]int
	bases   []int
	sizes   []int
	chain   []int
}

func latticeCases() []latticeCase {
	const all, bySex, byAge, none = "count level 1 by sex,age", "count level 1 by sex", "count level 1 by age", "count level 0"
	const allAges = "count level 1 by sex,age where age=0,1,2"
	return []latticeCase{
		{},
		{[]string{none}, [][]int{{0}}, []int{0}, []int{1}, []int{0}},
		{[]string{none, none, none}, [][]int{{0, 1, 2}, {0, 1, 2}, {0, 1, 2}}, []int{0}, []int{1, 1, 1}, []int{0}},
		{[]string{all, allAges}, [][]int{{0, 1}, {0, 1}}, []int{0}, []int{12, 12}, []int{0}},
		{[]string{allAges, all}, [][]int{{0, 1}, {0, 1}}, []int{0}, []int{12, 12}, []int{0}},
		{[]string{none, all}, [][]int{{0, 1}, {1}}, []int{1}, []int{1, 12}, []int{1, 0}},
		{[]string{all, none}, [][]int{{0}, {0, 1}}, []int{0}, []int{12, 1}, []int{0, 1}},
		{[]string{none, allAges, bySex, all, none}, [][]int{{0, 1, 2, 3, 4}, {1, 3}, {1, 2, 3}, {1, 3}, {0, 1, 2, 3, 4}}, []int{1}, []int{1, 12, 4, 12, 1}, []int{1, 2, 0}},
		{[]string{all, bySex, byAge, none}, [][]int{{0}, {0, 1}, {0, 2}, {0, 1, 2, 3}}, []int{0}, []int{12, 4, 6, 1}, []int{0, 1, 3}},
		{[]string{none, byAge, bySex, all}, [][]int{{0, 1, 2, 3}, {1, 3}, {2, 3}, {3}}, []int{3}, []int{1, 6, 4, 12}, []int{3, 1, 0}},
		{[]string{bySex, byAge}, [][]int{{0}, {1}}, []int{0, 1}, []int{4, 6}, []int{0}},
		{[]string{bySex, byAge, none}, [][]int{{0}, {1}, {0, 1, 2}}, []int{0, 1}, []int{4, 6, 1}, []int{0, 2}},
		{[]string{bySex, byAge, bySex, byAge}, [][]int{{0, 2}, {1, 3}, {0, 2}, {1, 3}}, []int{0, 1}, []int{4, 6, 4, 6}, []int{0}},
		{[]string{"count level 0 where age=1", bySex, byAge, none}, [][]int{{0, 2}, {1}, {2}, {1, 2, 3}}, []int{1, 2}, []int{1, 4, 6, 1}, []int{1, 3}},
		{[]string{"sum age level 0", "sum age level 1", none, byAge}, [][]int{{0, 1, 3}, {1, 3}, {2, 3}, {3}}, []int{3}, []int{1, 2, 1, 6}, []int{3, 1, 0}},
		{[]string{"sum age level 1", "sum sex level 1", "count level 1"}, [][]int{{0}, {1}, {2}}, []int{0, 1, 2}, []int{2, 2, 2}, []int{0}},
		{[]string{"count level 0 by sex", none, "count level 0 by sex", bySex, all, "count level 0 by sex"}, [][]int{{0, 2, 3, 4, 5}, {0, 1, 2, 3, 4, 5}, {0, 2, 3, 4, 5}, {3, 4}, {4}, {0, 2, 3, 4, 5}}, []int{4}, []int{2, 1, 2, 4, 12, 2}, []int{4, 3, 0, 1}},
	}
}

func TestLatticeExamples(t *testing.T) {
	g, s := tree(0, 0), schemaOf("sex2", "age3")
	for _, c := range latticeCases() {
		l := writtenPlan(g, s, c.texts...)
		sources, ok := impl.SourcesIn(g, s, l)
		expectLists(t, fmt.Sprint("SourcesIn ", c.texts), sources, c.sources)
		if !ok {
			t.Error("SourcesIn fails", c.texts)
		}
		bases, ok := impl.BaseTables(g, s, l)
		expectInts(t, fmt.Sprint("BaseTables ", c.texts), bases, ok, c.bases, true)
		sizes, ok := impl.PlanSizes(g, s, l)
		expectInts(t, fmt.Sprint("PlanSizes ", c.texts), sizes, ok, c.sizes, true)
		chain, ok := impl.LongestChain(g, s, l)
		expectInts(t, fmt.Sprint("LongestChain ", c.texts), chain, ok, c.chain, true)
		checkLattice(t, g, s, l)
	}
}

// TestLatticeOfShortPlans has all lists of up to 4 of some tables.
func TestLatticeOfShortPlans(t *testing.T) {
	s := schemaOf("sex2", "age3")
	for _, g := range []impl.Geo{tree(0, 0), tree(0, 0, 1)} {
		tables := writtenPlan(g, s, "count level 0", "count level 0 where age=0,1,2", "count level 1 by age", "sum age level 0", "count level 1 by age where age=1,2", "count level 0 where age=1")
		plans := [][]impl.Table{nil}
		for range 5 {
			var longer [][]impl.Table
			for _, l := range plans {
				checkLattice(t, g, s, l)
				for _, u := range tables {
					longer = append(longer, append(slices.Clone(l), u))
				}
			}
			plans = longer
		}
	}
}

func TestLatticeOfRandomPlans(t *testing.T) {
	r := rand.New(rand.NewSource(1110))
	for _, g := range append(largeGeos(), unevenGeos()...) {
		for _, s := range append(smallSchemas(), largestSchema(), randomSchema(r)) {
			for _, n := range []int{2, 3 + r.Intn(16), 20} {
				l := relatedPlan(r, g, s, n)
				checkLattice(t, g, s, l)
				checkSources(t, g, s, l, l[r.Intn(n)])
				checkSources(t, g, s, l, weaker(r, g, s, l[r.Intn(n)]))
				checkSources(t, g, s, l, changedTable(r, g, s, l[r.Intn(n)]))
				checkSources(t, g, s, l, randomTable(r, g, s))
				checkCovers(t, g, s, l[:n/2], l[n/2:])
				checkCovers(t, g, s, l[n/2:], l)
			}
		}
	}
}

// TestBaseTablesCoverThePlan says the other half of promise 11: they cover it,
// none of them follows from another one, and from the cells that are counted
// for them all cells of the plan are derived.
func TestBaseTablesCoverThePlan(t *testing.T) {
	r := rand.New(rand.NewSource(1111))
	for range 200 {
		g, s := randomGeo(r, 1+r.Intn(12), 1+r.Intn(4)), randomSchema(r)
		l, records := relatedPlan(r, g, s, r.Intn(21)), randomSurvey(r, g, s, 30)
		bases, ok := impl.BaseTables(g, s, l)
		if !ok || !slices.IsSorted(bases) {
			t.Fatal("BaseTables", g, s, l, bases, ok)
		}
		var kept []impl.Table
		for _, i := range bases {
			kept = append(kept, l[i])
		}
		covers, ok := impl.CoversPlan(g, s, kept, l)
		expectBool(t, fmt.Sprint("CoversPlan of the bases ", g, s, l), covers, ok, true, true)
		for i := range kept {
			others := slices.Delete(slices.Clone(kept), i, i+1)
			covers, ok := impl.CoversPlan(g, s, others, l)
			expectBool(t, fmt.Sprint("CoversPlan of fewer ", g, s, l), covers, ok, false, true)
		}
		for _, u := range l {
			i, ok := impl.CheapestSource(g, s, kept, u)
			if !ok {
				t.Fatal("CheapestSource of bases", g, s, l, u)
			}
			checkCounted(t, newTabulation(g, s, u), newTabulation(g, s, kept[i]), records)
		}
	}
}

// TestBaseTablesKeepsTheFirst has tables that follow from each other in all
// places of a plan.
func TestBaseTablesKeepsTheFirst(t *testing.T) {
	r := rand.New(rand.NewSource(1112))
	g, s := tree(0, 0), schemaOf("sex2", "age3")
	weak := written(g, s, "count level 0 where sex=1")
	for n := 1; n <= 20; n++ {
		for place := range n {
			l := slices.Repeat([]impl.Table{weak}, n)
			for i := place; i < n; i += 1 + r.Intn(3) {
				l[i] = otherWriting(r, s, written(g, s, "count level 1 by sex,age"))
			}
			bases, ok := impl.BaseTables(g, s, l)
			expectInts(t, fmt.Sprint("BaseTables ", l), bases, ok, []int{place}, true)
		}
	}
}

func TestCheapestSourceExamples(t *testing.T) {
	g, s := tree(0, 0), schemaOf("sex2", "age3")
	for _, c := range []struct {
		plan []string
		text string
		want int
		ok   bool
	}{
		{nil, "count level 0", 0, false},
		{[]string{"count level 0"}, "count level 0", 0, true},
		{[]string{"count level 0"}, "count level 1", 0, false},
		{[]string{"count level 0", "count level 0 by age", "sum age level 1"}, "count level 0 by sex", 0, false},
		{[]string{"count level 1 by sex,age", "count level 0 by sex", "count level 1 by sex"}, "count level 0 by sex", 1, true},
		{[]string{"count level 1 by sex,age", "count level 1 by sex", "count level 0 by sex,age", "count level 1 by sex"}, "count level 0", 1, true},
		{[]string{"count level 1 by sex,age", "count level 0 by sex,age", "count level 1 by age"}, "count level 0 by age", 1, true}, // both have 6 cells
		{[]string{"count level 1 by sex,age", "count level 1 by age", "count level 0 by sex,age"}, "count level 0 by age", 1, true},
		{[]string{"count level 0 by sex", "count level 1", "count level 0 by sex where sex=0,1"}, "count level 0", 0, true}, // all have 2
		{[]string{"count level 1 where age=0,1,2", "count level 1", "count level 0 by sex"}, "count level 0", 0, true},
		{[]string{"count level 0 where age=1", "count level 0 by age where age=1,2", "count level 0 by age"}, "count level 0 where age=2", 1, true}, // the smallest one counts others
		{[]string{"sum sex level 0", "count level 0", "count level 1 by age", "sum age level 1"}, "sum age level 0", 3, true},
		{[]string{"sum sex level 0", "count level 0", "count level 1 by age", "sum age level 1 by sex,age"}, "sum age level 0", 2, true},
	} {
		l, u := writtenPlan(g, s, c.plan...), written(g, s, c.text)
		i, ok := impl.CheapestSource(g, s, l, u)
		expectInt(t, fmt.Sprintf("CheapestSource %q %q", c.plan, c.text), i, ok, c.want, c.ok)
		checkSources(t, g, s, l, u)
	}
}

// TestCheapestSourceOfEqualSizes has n tables with as many cells, and larger
// ones in front of them.
func TestCheapestSourceOfEqualSizes(t *testing.T) {
	g, s := tree(0, 0), schemaOf("sex2", "age3")
	for n := range 11 {
		for larger := range 11 {
			l := slices.Repeat(writtenPlan(g, s, "count level 1 by sex,age"), larger)
			l = append(l, slices.Repeat(writtenPlan(g, s, "count level 1 by age"), n)...)
			want := larger
			if n == 0 {
				want = 0
			}
			i, ok := impl.CheapestSource(g, s, l, written(g, s, "count level 0 by age"))
			expectInt(t, fmt.Sprint("CheapestSource ", n, larger), i, ok, want, n+larger > 0)
		}
	}
}

func TestPlanSizesOfLargeTables(t *testing.T) {
	g, s := star(30), schemaOf("a8", "b2", "c4", "d5", "e5")
	l := []impl.Table{countTable(s, 1, 0, 1), countTable(s, 0, 0, 1, 2), countTable(s, 1, 2, 3), countTable(s, 1), countTable(s, 0), countTable(s, 0, 2, 3, 4)}
	sizes, ok := impl.PlanSizes(g, s, l)
	expectInts(t, "PlanSizes", sizes, ok, []int{464, 64, 580, 29, 1, 100}, true)
	for n := range 21 {
		sizes, ok := impl.PlanSizes(g, s, slices.Repeat(l[:1], n))
		expectInts(t, fmt.Sprint("PlanSizes ", n), sizes, ok, slices.Repeat([]int{464}, n), true)
	}
}

// TestLongestChainOfLevels has up to 20 tables of which each one follows from
// all with greater levels, in different orders.
func TestLongestChainOfLevels(t *testing.T) {
	r := rand.New(rand.NewSource(1113))
	g, s := chain(30), schemaOf("b2")
	for n := range 21 {
		l, want := make([]impl.Table, n), make([]int, n)
		for i, level := range r.Perm(30)[:n] {
			l[i], want[i] = countTable(s, level), i
		}
		slices.SortFunc(want, func(i, k int) int { return l[k].Level - l[i].Level })
		chain, ok := impl.LongestChain(g, s, l)
		expectInts(t, fmt.Sprint("LongestChain ", l), chain, ok, want, true)
		slices.SortFunc(l, func(a, b impl.Table) int { return a.Level - b.Level })
		slices.Sort(want)
		slices.Reverse(want)
		chain, ok = impl.LongestChain(g, s, l)
		expectInts(t, fmt.Sprint("LongestChain ", l), chain, ok, want, true)
		slices.Reverse(l)
		slices.Sort(want)
		chain, ok = impl.LongestChain(g, s, l)
		expectInts(t, fmt.Sprint("LongestChain ", l), chain, ok, want, true)
	}
}

// TestLongestChainOfEqualTables has each of some tables several times: no table
// follows one that follows from it.
func TestLongestChainOfEqualTables(t *testing.T) {
	g, s := chain(4), schemaOf("b2")
	for times := 1; times <= 6; times++ {
		var l []impl.Table
		for range times {
			for level := range 3 {
				l = append(l, countTable(s, level))
			}
		}
		chain, ok := impl.LongestChain(g, s, l)
		expectInts(t, fmt.Sprint("LongestChain ", times), chain, ok, []int{2, 1, 0}, true)
		slices.Reverse(l)
		chain, ok = impl.LongestChain(g, s, l)
		expectInts(t, fmt.Sprint("LongestChain the other way ", times), chain, ok, []int{0, 1, 2}, true)
		slices.SortFunc(l, func(a, b impl.Table) int { return a.Level - b.Level })
		chain, ok = impl.LongestChain(g, s, l)
		expectInts(t, fmt.Sprint("LongestChain by levels ", times), chain, ok, []int{2 * times, times, 0}, true)
		chain, ok = impl.LongestChain(g, s, slices.Repeat(l[:1], 20))
		expectInts(t, "LongestChain of one table", chain, ok, []int{0}, true)
	}
}

// TestLongestChainIsTheFirst has layers of tables, each of which follows from
// all of the layers before, and all orders of them.
func TestLongestChainIsTheFirst(t *testing.T) {
	r := rand.New(rand.NewSource(1114))
	g, s := chain(4), schemaOf("a2", "b2", "c2")
	layers := [][]impl.Table{{countTable(s, 3, 0, 1, 2)}, {countTable(s, 2, 0, 1), countTable(s, 2, 0, 2), countTable(s, 2, 1, 2)}, {countTable(s, 1, 0), countTable(s, 1, 1), countTable(s, 1, 2)}, {countTable(s, 0)}}
	for range 300 {
		l := slices.Concat(layers...)
		r.Shuffle(len(l), func(i, k int) { l[i], l[k] = l[k], l[i] })
		checkLattice(t, g, s, l)
		checkLattice(t, g, s, l[:5])
	}
}

func TestCoversPlanExamples(t *testing.T) {
	g, s := tree(0, 0), schemaOf("sex2", "age3")
	for _, c := range []struct {
		l, m []string
		want bool
	}{
		{nil, nil, true}, {[]string{"count level 0"}, nil, true}, {nil, []string{"count level 0"}, false}, {nil, []string{"count level 0", "count level 0"}, false},
		{[]string{"count level 0"}, []string{"count level 0", "count level 0 where age=0,1,2"}, true},
		{[]string{"count level 0"}, []string{"count level 1"}, false}, {[]string{"count level 1"}, []string{"count level 0"}, true},
		{[]string{"count level 1 by sex", "count level 1 by age"}, []string{"count level 0 by age", "count level 0 by sex", "sum age level 1"}, true},
		{[]string{"count level 1 by sex", "count level 1 by age"}, []string{"count level 0 by age", "count level 0 by sex,age"}, false},
		{[]string{"count level 1 by sex", "count level 1 by age"}, []string{"count level 0 by sex,age", "count level 0 by age"}, false},
		{[]string{"count level 1 by sex", "count level 1 by age"}, []string{"count level 0 by age", "count level 0 by sex where age=1", "count level 0"}, false},
		{[]string{"sum age level 0", "count level 0"}, []string{"count level 0", "sum age level 0"}, true},
		{[]string{"sum age level 0", "count level 0"}, []string{"count level 0", "sum sex level 0"}, false},
	} {
		l, m := writtenPlan(g, s, c.l...), writtenPlan(g, s, c.m...)
		covers, ok := impl.CoversPlan(g, s, l, m)
		expectBool(t, fmt.Sprintf("CoversPlan %q %q", c.l, c.m), covers, ok, c.want, true)
		checkCovers(t, g, s, l, m)
		checkCovers(t, g, s, m, l)
	}
}

// TestCoversPlanLooksAtEachTable has one table that is not covered everywhere.
func TestCoversPlanLooksAtEachTable(t *testing.T) {
	g, s := tree(0, 0), schemaOf("sex2", "age3")
	base, fine, other := written(g, s, "count level 1 by sex"), written(g, s, "count level 0"), written(g, s, "count level 0 by age")
	for n := 1; n <= 20; n++ {
		for place := range n {
			m := slices.Repeat([]impl.Table{fine}, n)
			checkCovers(t, g, s, []impl.Table{base}, m)
			m[place] = other
			covers, ok := impl.CoversPlan(g, s, []impl.Table{base}, m)
			expectBool(t, fmt.Sprint("CoversPlan ", n, place), covers, ok, false, true)
			l := slices.Repeat([]impl.Table{other}, n)
			l[place] = base
			covers, ok = impl.CoversPlan(g, s, l, []impl.Table{base, other})
			expectBool(t, fmt.Sprint("CoversPlan by one of ", n, place), covers, ok, n > 1, true)
		}
	}
}
