package tests

import (
	"fmt"
	"maps"
	"math/rand"
	"slices"
	"testing"

	"loop.example/g00908/impl"
)

// conditionIn lists the levels of a variable that a table counts.
func conditionIn(s []impl.Variable, u impl.Table, i int) []int {
	var levels []int
	for level := range s[i].Levels {
		if u.Where[i] == 0 || slices.Contains(levelsOfSet(u.Where[i]), level) {
			levels = append(levels, level)
		}
	}
	return levels
}

// leavesAt lists the leaves that are, or are below, areas of a level.
func leavesAt(g impl.Geo, level int) []int {
	var leaves []int
	for _, area := range levelOf(g, level) {
		for _, leaf := range leavesIn(g) {
			if slices.Contains(pathOf(g, leaf), area) {
				leaves = append(leaves, leaf)
			}
		}
	}
	return leaves
}

// hasAll says whether a list has all elements of another one.
func hasAll(l, elements []int) bool {
	for _, element := range elements {
		if !slices.Contains(l, element) {
			return false
		}
	}
	return true
}

// followsIn says what FollowsFrom must say of valid tables.
func followsIn(g impl.Geo, s []impl.Variable, a, b impl.Table) bool {
	if b.Level < a.Level || !hasAll(leavesAt(g, b.Level), leavesAt(g, a.Level)) || !hasAll(b.Vars, a.Vars) {
		return false
	}
	for i := range s {
		narrow, wide := conditionIn(s, a, i), conditionIn(s, b, i)
		if slices.Equal(narrow, wide) {
			continue
		}
		if !slices.Contains(b.Vars, i) || !hasAll(wide, narrow) {
			return false
		}
	}
	return a.Sum == b.Sum || b.Sum < 0 && slices.Contains(b.Vars, a.Sum)
}

// takes says how often the cell `from` of q is added to the cell `to` of p.
func (p tabulation) takes(to cell, q tabulation, from cell) int {
	if !slices.Contains(pathOf(p.g, from.area), to.area) {
		return 0
	}
	times := 1
	for k, v := range q.u.Vars {
		value := from.values[k]
		place := slices.Index(p.u.Vars, v)
		if !slices.Contains(conditionIn(p.s, p.u, v), value) || place >= 0 && to.values[place] != value {
			return 0
		}
		if q.u.Sum < 0 && p.u.Sum == v {
			times = value
		}
	}
	return times
}

// derivedFrom says what DeriveCells must return for a table that follows and one
// number for each cell of q.
func (p tabulation) derivedFrom(q tabulation, numbers []int) []int {
	sums := make([]int, len(p.cells))
	for i, to := range p.cells {
		for k, from := range q.cells {
			sums[i] += p.takes(to, q, from) * numbers[k]
		}
	}
	return sums
}

// sourcesOf says what SourcesIn must return for one table.
func sourcesOf(g impl.Geo, s []impl.Variable, l []impl.Table, u impl.Table) []int {
	var sources []int
	for k := range l {
		if followsIn(g, s, u, l[k]) {
			sources = append(sources, k)
		}
	}
	return sources
}

// basesOf says what BaseTables must return: from the last table to the first,
// it removes each one that follows from another one that is still there.
func basesOf(g impl.Geo, s []impl.Variable, l []impl.Table) []int {
	var bases []int
	for i := range l {
		bases = append(bases, i)
	}
	for i := len(l) - 1; i >= 0; i-- {
		others := slices.DeleteFunc(slices.Clone(bases), func(k int) bool { return k == i })
		if slices.ContainsFunc(others, func(k int) bool { return followsIn(g, s, l[i], l[k]) }) {
			bases = others
		}
	}
	return bases
}

// joinIn says what JoinTables must return for valid tables.
func joinIn(g impl.Geo, s []impl.Variable, a, b impl.Table) (impl.Table, bool) {
	join, crossed := impl.Table{Level: max(a.Level, b.Level), Sum: a.Sum}, map[int]bool{}
	for _, v := range slices.Concat(a.Vars, b.Vars) {
		crossed[v] = true
	}
	if a.Sum != b.Sum {
		join.Sum = -1
		crossed[a.Sum], crossed[b.Sum] = true, true
		delete(crossed, -1)
	}
	for i, v := range s {
		one, other, union := conditionIn(s, a, i), conditionIn(s, b, i), 0
		if !slices.Equal(one, other) {
			crossed[i] = true
		}
		both := slices.Concat(one, other)
		slices.Sort(both)
		if both = slices.Compact(both); len(both) < v.Levels {
			union = setOf(both...)
		}
		join.Where = append(join.Where, union)
	}
	join.Vars = slices.Sorted(maps.Keys(crossed))
	if !tableIsGood(g, s, join) || !followsIn(g, s, a, join) || !followsIn(g, s, b, join) {
		return impl.Table{}, false
	}
	return join, true
}

// sizesIn says what PlanSizes must return.
func sizesIn(g impl.Geo, s []impl.Variable, l []impl.Table) []int {
	var sizes []int
	for _, u := range l {
		sizes = append(sizes, len(newTabulation(g, s, u).cells))
	}
	return sizes
}

// cheapestIn says what CheapestSource must return.
func cheapestIn(g impl.Geo, s []impl.Variable, l []impl.Table, u impl.Table) (int, bool) {
	cheapest, least, sizes := 0, 601, sizesIn(g, s, l)
	for _, k := range sourcesOf(g, s, l, u) {
		if sizes[k] < least {
			cheapest, least = k, sizes[k]
		}
	}
	return cheapest, least < 601
}

// chainIn says what LongestChain must return: it goes through all lists in
// lexicographic order.
func chainIn(g impl.Geo, s []impl.Variable, l []impl.Table) []int {
	sources := make([][]int, len(l))
	for i, u := range l {
		sources[i] = sourcesOf(g, s, l, u)
	}
	var longest []int
	var extend func(list []int)
	extend = func(list []int) {
		if len(list) > len(longest) {
			longest = slices.Clone(list)
		}
		for i := range l {
			if len(list) > 0 {
				last := list[len(list)-1]
				if !slices.Contains(sources[i], last) || slices.Contains(sources[last], i) {
					continue
				}
			}
			extend(append(slices.Clone(list), i))
		}
	}
	extend(nil)
	return longest
}

// coversIn says what CoversPlan must say of plans.
func coversIn(g impl.Geo, s []impl.Variable, l, m []impl.Table) bool {
	for _, u := range m {
		if len(sourcesOf(g, s, l, u)) == 0 {
			return false
		}
	}
	return true
}

// written returns the table that has a text.
func written(g impl.Geo, s []impl.Variable, text string) impl.Table {
	u, ok := tableOfText(g, s, text)
	if !ok {
		panic(text)
	}
	return u
}

// writtenPlan returns the tables that have the texts.
func writtenPlan(g impl.Geo, s []impl.Variable, texts ...string) []impl.Table {
	var l []impl.Table
	for _, text := range texts {
		l = append(l, written(g, s, text))
	}
	return l
}

// weaker returns a valid table with fewer Vars, a smaller Level, or smaller sets
// of the Vars of u. It follows from u if the leaves allow it.
func weaker(r *rand.Rand, g impl.Geo, s []impl.Variable, u impl.Table) impl.Table {
	w := otherWriting(r, s, u)
	w.Vars = nil
	for _, v := range u.Vars {
		if r.Intn(3) > 0 {
			w.Vars = append(w.Vars, v)
		}
		levels := conditionIn(s, u, v)
		r.Shuffle(len(levels), func(i, k int) { levels[i], levels[k] = levels[k], levels[i] })
		if r.Intn(3) == 0 {
			w.Where[v] = setOf(levels[:1+r.Intn(len(levels))]...)
		}
		if u.Sum < 0 && r.Intn(4) == 0 {
			w.Sum = v
		}
	}
	if higher := w; r.Intn(2) == 0 {
		higher.Level = r.Intn(u.Level + 1)
		if tableIsGood(g, s, higher) {
			return higher
		}
	}
	return w
}

// changedTable returns a valid table that differs from u in one of its numbers.
func changedTable(r *rand.Rand, g impl.Geo, s []impl.Variable, u impl.Table) impl.Table {
	for {
		w, i := otherWriting(r, s, u), r.Intn(len(s))
		switch r.Intn(4) {
		case 0:
			w.Level = r.Intn(depthIn(g) + 1)
		case 1:
			sets := setsOf(s[i].Levels)
			w.Where[i] = sets[r.Intn(len(sets))]
		case 2:
			w.Sum = r.Intn(len(s)+1) - 1
		case 3:
			vars := setsOfVariables(len(s))
			w.Vars = vars[r.Intn(len(vars))]
		}
		if tableIsGood(g, s, w) {
			return w
		}
	}
}

// relatedPlan returns n valid tables, many of which follow from others.
func relatedPlan(r *rand.Rand, g impl.Geo, s []impl.Variable, n int) []impl.Table {
	l := make([]impl.Table, n)
	for i := range l {
		l[i] = randomTable(r, g, s)
		if i == 0 {
			continue
		}
		earlier := l[r.Intn(i)]
		switch r.Intn(8) {
		case 0, 1, 2, 3:
			l[i] = weaker(r, g, s, earlier)
		case 4:
			l[i] = otherWriting(r, s, earlier)
		case 5:
			l[i] = changedTable(r, g, s, earlier)
		}
	}
	r.Shuffle(n, func(i, k int) { l[i], l[k] = l[k], l[i] })
	return l
}

// checkSmallPairs calls a function with all pairs of tables of one variable with
// few areas, and of two variables with one area, in one of both orders.
func checkSmallPairs(t *testing.T, check func(t *testing.T, g impl.Geo, s []impl.Variable, a, b impl.Table)) {
	t.Helper()
	pairs := func(g impl.Geo, s []impl.Variable) {
		tables := tablesWith(g, s, allWheres(s))
		for i, a := range tables {
			for _, b := range tables[:i+1] {
				check(t, g, s, a, b)
			}
		}
	}
	for _, g := range fewAreas(4) {
		pairs(g, schemaOf("b2"))
	}
	pairs(tree(), schemaOf("sex2", "age3"))
}

// TestOracleKnowsRelatedTables has no list that is not a plan, and many tables
// of each kind: such that follow from each other, from one another, and not.
func TestOracleKnowsRelatedTables(t *testing.T) {
	r := rand.New(rand.NewSource(1100))
	both, one, none := 0, 0, 0
	for _, g := range append(unevenGeos(), largeGeos()...) {
		for _, s := range smallSchemas() {
			l := relatedPlan(r, g, s, 20)
			if !planIsGood(g, s, l) {
				t.Error("should be a plan", g, s, l)
			}
			for i, a := range l {
				for _, b := range l[:i] {
					switch ab, ba := followsIn(g, s, a, b), followsIn(g, s, b, a); {
					case ab && ba:
						both++
					case ab || ba:
						one++
					default:
						none++
					}
				}
			}
		}
	}
	if both < 1000 || one < 4000 || none < 10000 {
		t.Error("few pairs", both, one, none)
	}
}

// TestOracleFindsSums has surveys whose records are counted by both tables.
func TestOracleFindsSums(t *testing.T) {
	r := rand.New(rand.NewSource(1101))
	found := 0
	for range 300 {
		g, s := randomGeo(r, 1+r.Intn(8), 1+r.Intn(3)), schemaOf("sex2", "age3", "b2")
		u := randomTable(r, g, s)
		w, l := weaker(r, g, s, u), randomSurvey(r, g, s, 40)
		if !followsIn(g, s, w, u) {
			continue
		}
		p, q := newTabulation(g, s, w), newTabulation(g, s, u)
		expectInts(t, fmt.Sprint("the oracle ", g, s, w, u, l), p.derivedFrom(q, q.sums(l)), true, p.sums(l), true)
		found++
	}
	if found < 150 {
		t.Error("few tables follow", found)
	}
}
