package tests

import (
	"fmt"
	"math/rand"
	"slices"
	"testing"

	"loop.example/g00908/impl"
)

// checkChanges calls the functions that change values, with all of the given
// values and sets of variables.
func checkChanges(t *testing.T, p repair, lists, sets [][]int) {
	t.Helper()
	call := fmt.Sprint(p.s, p.l, p.weights)
	for _, values := range lists {
		want, wantCost, wantOK := p.changeOf(values)
		vars, cost, ok := impl.CheapestChange(p.s, p.l, p.weights, values)
		expectChange(t, fmt.Sprint("CheapestChange ", call, values), vars, cost, ok, want, wantCost, wantOK)
		mended, ok := impl.MendValues(p.s, p.l, p.weights, values)
		wantMended, wantOK := p.mendedOf(values)
		expectInts(t, fmt.Sprint("MendValues ", call, values), mended, ok, wantMended, wantOK)
		checkPacking(t, p, values)
		for _, vars := range sets {
			is, ok := impl.IsCover(p.s, p.l, values, vars)
			expectBool(t, fmt.Sprint("IsCover ", call, values, vars), is, ok, p.covers(values, vars), true)
			checkMend(t, p, vars, values, lists)
		}
	}
}

// checkMend asks whether values are mended to each list of values.
func checkMend(t *testing.T, p repair, vars, values []int, lists [][]int) {
	t.Helper()
	for _, mended := range lists {
		is, ok := impl.IsMend(p.s, p.l, vars, values, mended)
		expectBool(t, fmt.Sprint("IsMend ", p.s, p.l, vars, values, mended), is, ok, p.mends(vars, values, mended), true)
	}
}

// refusesChange calls the functions that change values.
func refusesChange(t *testing.T, s []impl.Variable, l []impl.Edit, weights, values []int) {
	t.Helper()
	call := fmt.Sprintf("%.100s %.100s %.100s %.100s", fmt.Sprint(s), fmt.Sprint(l), fmt.Sprint(weights), fmt.Sprint(values))
	vars, cost, ok := impl.CheapestChange(s, l, weights, values)
	expectChange(t, "CheapestChange "+call, vars, cost, ok, nil, 0, false)
	mended, ok := impl.MendValues(s, l, weights, values)
	expectInts(t, "MendValues "+call, mended, ok, nil, false)
	cost, packed, ok := impl.PackingBound(s, l, weights, values)
	expectChange(t, "PackingBound "+call, packed, cost, ok, nil, 0, false)
}

// refusesCover calls the functions with sets of variables, IsMend also with
// lists that are no values, which must not hide what else is wrong.
func refusesCover(t *testing.T, s []impl.Variable, l []impl.Edit, vars, values []int) {
	t.Helper()
	call := fmt.Sprintf("%.100s %.100s %.100s %.100s", fmt.Sprint(s), fmt.Sprint(l), fmt.Sprint(vars), fmt.Sprint(values))
	is, ok := impl.IsCover(s, l, values, vars)
	expectBool(t, "IsCover "+call, is, ok, false, false)
	for _, mended := range [][]int{values, nil, {-1}, append(slices.Clone(values), 0), slices.Repeat([]int{9}, len(values))} {
		is, ok = impl.IsMend(s, l, vars, values, mended)
		expectBool(t, fmt.Sprintf("IsMend %s %.100s", call, fmt.Sprint(mended)), is, ok, false, false)
	}
}

func TestChangeCostExamples(t *testing.T) {
	s := schemaOf("sex2", "age3", "b2")
	for _, c := range []struct {
		weights, a, b []int
		want          int
	}{
		{[]int{1, 5, 100}, []int{0, 1, 0}, []int{0, 1, 0}, 0},
		{[]int{1, 5, 100}, []int{0, 1, 0}, []int{1, 1, 0}, 1},
		{[]int{1, 5, 100}, []int{0, 1, 0}, []int{0, 2, 0}, 5},
		{[]int{1, 5, 100}, []int{0, 0, 0}, []int{0, 2, 0}, 5},
		{[]int{1, 5, 100}, []int{0, 1, 0}, []int{0, 1, 1}, 100},
		{[]int{1, 5, 100}, []int{0, 1, 1}, []int{1, 0, 1}, 6},
		{[]int{1, 5, 100}, []int{0, 1, 1}, []int{1, 0, 0}, 106},
		{[]int{1, 1, 1}, []int{0, 1, 1}, []int{1, 0, 0}, 3},
		{[]int{100, 100, 100}, []int{0, 1, 1}, []int{1, 0, 0}, 300},
	} {
		got, ok := impl.ChangeCost(s, c.weights, c.a, c.b)
		expectInt(t, fmt.Sprint("ChangeCost ", c), got, ok, c.want, true)
		got, ok = impl.ChangeCost(s, c.weights, c.b, c.a)
		expectInt(t, fmt.Sprint("ChangeCost back ", c), got, ok, c.want, true)
	}
}

// TestChangeCostOfAnySchema has schemas also that are too large for the other
// functions.
func TestChangeCostOfAnySchema(t *testing.T) {
	r := rand.New(rand.NewSource(71))
	for _, s := range append(smallSchemas(), largestSchema(), schemaOf("a7", "b5", "c3")) {
		for range 100 {
			p := repair{s: s, weights: randomWeights(r, s)}
			a, b := randomValues(r, s), randomValues(r, s)
			got, ok := impl.ChangeCost(s, p.weights, a, b)
			expectInt(t, fmt.Sprint("ChangeCost ", s, p.weights, a, b), got, ok, p.costOf(a, b), true)
		}
		p := repair{s: s, weights: slices.Repeat([]int{100}, len(s))}
		got, ok := impl.ChangeCost(s, p.weights, make([]int, len(s)), farRecord(s).Values)
		expectInt(t, fmt.Sprint("ChangeCost ", s), got, ok, 100*len(s), true)
	}
}

func TestChangeCostRefuses(t *testing.T) {
	for _, s := range append(smallSchemas(), largestSchema()) {
		zero := make([]int, len(s))
		refuses := func(weights, a, b []int) {
			t.Helper()
			got, ok := impl.ChangeCost(s, weights, a, b)
			expectInt(t, fmt.Sprintf("ChangeCost %v %.100s %.100s %.100s", s, fmt.Sprint(weights), fmt.Sprint(a), fmt.Sprint(b)), got, ok, 0, false)
		}
		for _, weights := range wrongWeights(s) {
			refuses(weights, zero, zero)
			refuses(weights, zero, farRecord(s).Values)
		}
		for _, values := range wrongValues(s) {
			refuses(ones(s), values, zero)
			refuses(ones(s), zero, values)
			refuses(ones(s), values, values)
		}
	}
}

func TestCheapestChangeExamples(t *testing.T) {
	s := schemaOf("sex2", "age3", "b2")
	l := []impl.Edit{edit(1, 6, 3), edit(2, 4, 3), edit(1, 1, 1)}
	for _, c := range []struct {
		l               []impl.Edit
		weights, values []int
		want            []int
		cost            int
		mended          []int
	}{
		{nil, []int{1, 1, 1}, []int{1, 2, 1}, nil, 0, []int{1, 2, 1}},
		{l, []int{1, 1, 1}, []int{0, 0, 1}, nil, 0, []int{0, 0, 1}},
		{l, []int{1, 1, 1}, []int{1, 1, 1}, nil, 0, []int{1, 1, 1}},
		{l, []int{1, 1, 1}, []int{0, 0, 0}, []int{0}, 1, []int{1, 0, 0}},
		{l, []int{2, 1, 1}, []int{0, 0, 0}, []int{2}, 1, []int{0, 0, 1}},
		{l, []int{2, 1, 3}, []int{0, 0, 0}, []int{0}, 2, []int{1, 0, 0}},
		{l, []int{1, 1, 1}, []int{0, 1, 0}, []int{0}, 1, []int{1, 1, 0}},
		{l, []int{3, 1, 1}, []int{0, 1, 0}, []int{1, 2}, 2, []int{0, 0, 1}},
		{l, []int{2, 1, 1}, []int{0, 1, 0}, []int{0}, 2, []int{1, 1, 0}},
		{l, []int{100, 1, 100}, []int{0, 1, 0}, []int{0}, 100, []int{1, 1, 0}},
		{l, []int{100, 100, 100}, []int{0, 2, 1}, []int{1}, 100, []int{0, 0, 1}},
		{l, []int{1, 3, 100}, []int{0, 2, 1}, []int{1}, 3, []int{0, 0, 1}},
		{l, []int{1, 100, 100}, []int{0, 2, 0}, []int{0, 1}, 101, []int{1, 0, 0}},
		{l, []int{100, 1, 1}, []int{0, 2, 0}, []int{1, 2}, 2, []int{0, 0, 1}},
		{l, []int{1, 1, 1}, []int{0, 2, 0}, []int{0, 1}, 2, []int{1, 0, 0}},
		{[]impl.Edit{edit(3, 7, 1)}, []int{1, 1, 100}, []int{1, 2, 0}, []int{2}, 100, []int{1, 2, 1}},
		{[]impl.Edit{edit(2, 7, 3), edit(3, 6, 3), edit(3, 7, 1)}, []int{100, 100, 100}, []int{1, 2, 0}, []int{0, 1, 2}, 300, []int{0, 0, 1}},
		{[]impl.Edit{edit(3, 4, 3)}, []int{1, 1, 1}, []int{1, 2, 1}, []int{1}, 1, []int{1, 0, 1}},
		{[]impl.Edit{edit(3, 5, 3)}, []int{1, 1, 1}, []int{1, 2, 1}, []int{1}, 1, []int{1, 1, 1}},
	} {
		vars, cost, ok := impl.CheapestChange(s, c.l, c.weights, c.values)
		expectChange(t, fmt.Sprint("CheapestChange ", c), vars, cost, ok, c.want, c.cost, true)
		mended, ok := impl.MendValues(s, c.l, c.weights, c.values)
		expectInts(t, fmt.Sprint("MendValues ", c), mended, ok, c.mended, true)
	}
}

// TestCheapestOfSeveralChanges has sets of variables that are changes, none of
// which contains another, with equal and different sums: just the values that
// are 1 in one of the sets and 0 elsewhere pass.
func TestCheapestOfSeveralChanges(t *testing.T) {
	s := schemaOf("d2", "a2", "c2", "b2", "e2")
	for _, c := range []struct {
		sets    [][]int
		weights []int
		want    []int
		cost    int
	}{
		{[][]int{{0, 1}, {2}}, []int{1, 1, 2, 1, 1}, []int{2}, 2},
		{[][]int{{0, 1}, {2}}, []int{1, 1, 3, 1, 1}, []int{0, 1}, 2},
		{[][]int{{0, 1, 2}, {3, 4}}, []int{1, 1, 2, 2, 2}, []int{3, 4}, 4},
		{[][]int{{0, 1, 2}, {3, 4}}, []int{1, 1, 2, 2, 3}, []int{0, 1, 2}, 4},
		{[][]int{{0, 1, 2, 3}, {4}}, []int{25, 25, 25, 25, 100}, []int{4}, 100},
		{[][]int{{0, 1, 2, 3}, {4}}, []int{25, 25, 25, 24, 100}, []int{0, 1, 2, 3}, 99},
		{[][]int{{4}, {3}, {1}}, []int{9, 5, 9, 5, 5}, []int{1}, 5},
		{[][]int{{4}, {3}, {1}}, []int{9, 6, 9, 5, 5}, []int{3}, 5},
		{[][]int{{1, 2}, {0, 4}, {0, 3}}, []int{1, 1, 1, 1, 1}, []int{0, 3}, 2},
		{[][]int{{1, 2}, {0, 4}, {0, 3}}, []int{2, 1, 1, 1, 1}, []int{1, 2}, 2},
		{[][]int{{1, 2}, {0, 4}, {0, 3}}, []int{1, 2, 3, 4, 4}, []int{0, 3}, 5},
		{[][]int{{1, 2}, {0, 4}, {0, 3}}, []int{1, 2, 3, 5, 4}, []int{0, 4}, 5},
		{[][]int{{0, 1, 2}, {0, 3}, {1, 3}}, []int{1, 1, 1, 2, 9}, []int{0, 3}, 3},
		{[][]int{{0, 1, 2, 3, 4}}, []int{100, 100, 100, 100, 100}, []int{0, 1, 2, 3, 4}, 500},
		{[][]int{nil, {0}}, []int{1, 1, 1, 1, 1}, nil, 0},
	} {
		var l []impl.Edit
		for _, set := range setsOfVariables(len(s)) {
			if !slices.ContainsFunc(c.sets, func(passes []int) bool { return slices.Equal(passes, set) }) {
				l = append(l, editOfValues(valuesOf(s, set)))
			}
		}
		vars, cost, ok := impl.CheapestChange(s, l, c.weights, make([]int, len(s)))
		expectChange(t, fmt.Sprint("CheapestChange ", c), vars, cost, ok, c.want, c.cost, true)
		mended, ok := impl.MendValues(s, l, c.weights, make([]int, len(s)))
		expectInts(t, fmt.Sprint("MendValues ", c), mended, ok, valuesOf(s, c.want), true)
	}
}

// valuesOf returns the values that are 1 in some variables and 0 elsewhere.
func valuesOf(s []impl.Variable, vars []int) []int {
	values := make([]int, len(s))
	for _, v := range vars {
		values[v] = 1
	}
	return values
}

// TestCheapestChangeIsTheLightestHittingSet has edits that fail where variables
// are 0: a change of zeros is a set that has a variable of each edit.
func TestCheapestChangeIsTheLightestHittingSet(t *testing.T) {
	s := schemaOf("d2", "a2", "c2", "b2", "e2", "f2")
	r := rand.New(rand.NewSource(72))
	all := setsOfVariables(len(s))
	for range 200 {
		var sets [][]int
		for range r.Intn(8) {
			sets = append(sets, all[1+r.Intn(len(all)-1)])
		}
		p := repair{s: s, weights: randomWeights(r, s)}
		var want []int
		least := 1000
		for _, set := range all {
			meets := func(other []int) bool {
				return slices.ContainsFunc(other, func(v int) bool { return slices.Contains(set, v) })
			}
			misses := func(other []int) bool { return !meets(other) }
			if cost := p.weightOf(set); cost < least && !slices.ContainsFunc(sets, misses) {
				want, least = set, cost
			}
		}
		vars, cost, ok := impl.CheapestChange(s, editsOfZeros(s, sets...), p.weights, make([]int, len(s)))
		expectChange(t, fmt.Sprint("CheapestChange ", sets, p.weights), vars, cost, ok, want, least, true)
	}
}

// TestNothingPasses has edits that all values fail.
func TestNothingPasses(t *testing.T) {
	for _, s := range fewCombinations() {
		zero := make([]int, len(s))
		b := newEditTable(s)
		for _, l := range [][]impl.Edit{{editOfAll(s)}, append(editsBut(s, zero), editOfValues(zero)), slices.Repeat([]impl.Edit{editOfAll(s)}, 40)} {
			for _, values := range [][]int{zero, farRecord(s).Values} {
				refusesChange(t, s, l, ones(s), values)
				for _, vars := range setsOfVariables(len(s)) {
					is, ok := impl.IsCover(s, l, values, vars)
					expectBool(t, fmt.Sprint("IsCover ", s, l, values, vars), is, ok, false, true)
					is, ok = impl.IsMend(s, l, vars, values, values)
					expectBool(t, fmt.Sprint("IsMend ", s, l, vars, values), is, ok, false, true)
				}
			}
			checkDonors(t, newRepair(b, l, ones(s)), nil, [][]int{zero})
			checkDonors(t, newRepair(b, l, ones(s)), []impl.Record{farRecord(s), farRecord(s)}, [][]int{zero})
		}
	}
}

// TestChangesOfAllFewEdits goes through all short lists of edits.
func TestChangesOfAllFewEdits(t *testing.T) {
	r := rand.New(rand.NewSource(73))
	for _, c := range []struct {
		s      []impl.Variable
		length int
	}{{schemaOf("b2"), 4}, {schemaOf("c3"), 2}, {schemaOf("b2", "a2"), 2}, {schemaOf("sex2", "age3"), 2}} {
		b, lists, sets := newEditTable(c.s), listsOfValues(c.s), setsOfVariables(len(c.s))
		for n := range c.length + 1 {
			for _, places := range allNumbers(n, 0, len(b.edits)-1) {
				var l []impl.Edit
				for _, i := range places {
					l = append(l, b.edits[i])
				}
				checkChanges(t, newRepair(b, l, randomWeights(r, c.s)), lists, sets)
			}
		}
	}
}

// TestChangesOfEachSetOfValues has for each set of lists of values the edits
// that just these fail.
func TestChangesOfEachSetOfValues(t *testing.T) {
	for _, s := range [][]impl.Variable{schemaOf("b2"), schemaOf("c3"), schemaOf("b2", "a2"), schemaOf("sex2", "age3"), schemaOf("a2", "b2", "c2")} {
		b, lists, sets := newEditTable(s), listsOfValues(s), setsOfVariables(len(s))
		for _, failing := range append([]int{0}, setsOf(len(lists))...) {
			var l []impl.Edit
			for _, i := range levelsOfSet(failing) {
				l = append(l, editOfValues(lists[i]))
			}
			weights := []int{2, 1, 1}[:len(s)]
			checkChanges(t, newRepair(b, l, weights), lists, sets)
		}
	}
}

func TestChangesOfRandomLists(t *testing.T) {
	r := rand.New(rand.NewSource(74))
	for _, s := range fewCombinations() {
		b, sets := newEditTable(s), setsOfVariables(len(s))
		for _, n := range []int{0, 1, 2, 3, 5, 8, 13, 20, 39, 40} {
			for _, l := range [][]impl.Edit{randomEdits(r, s, n), denseEdits(r, s, n)} {
				lists := [][]int{make([]int, len(s)), randomValues(r, s), randomValues(r, s)}
				some := [][]int{nil, allBut(s), sets[r.Intn(len(sets))], sets[r.Intn(len(sets))]}
				checkChanges(t, newRepair(b, l, randomWeights(r, s)), lists, some)
			}
		}
	}
}

// TestSmallLimitOfChanges has schemas with exactly MaxSmall lists of values, with
// a few less and with a few more. No schema has 101 to 104.
func TestSmallLimitOfChanges(t *testing.T) {
	r, met := rand.New(rand.NewSource(75)), map[int]bool{}
	for _, s := range schemasAbout(96, 112, 2, 3, 4, 5, 6) {
		total, _ := impl.CombinationCount(s)
		met[total] = true
		zero, values := make([]int, len(s)), randomValues(r, s)
		data := []impl.Record{farRecord(s), person(1, 2, values...)}
		for _, l := range [][]impl.Edit{nil, {editOfValues(zero)}, randomEdits(r, s, 12)} {
			if total > 100 {
				refusesChange(t, s, l, ones(s), zero)
				refusesCover(t, s, l, nil, zero)
				refusesCover(t, s, l, []int{0}, values)
				refusesDonors(t, s, l, ones(s), data, values)
				refusesDonors(t, s, l, ones(s), nil, values)
				continue
			}
			p := newRepair(newEditTable(s), l, randomWeights(r, s))
			checkChanges(t, p, [][]int{zero, values}, [][]int{nil, {0}})
			checkDonors(t, p, data, [][]int{zero, values})
		}
	}
	for _, total := range []int{96, 98, 100, 105, 108, 112} {
		if !met[total] {
			t.Error("no schema with so many lists of values", total)
		}
	}
}

// TestPromise7 says it with the functions alone: the cheapest change covers all
// failed edits, is mended within it, and no bound is greater than its cost.
func TestPromise7(t *testing.T) {
	r := rand.New(rand.NewSource(76))
	for _, s := range fewCombinations() {
		for range 40 {
			l, values, weights := randomEdits(r, s, r.Intn(20)), randomValues(r, s), randomWeights(r, s)
			vars, cost, ok := impl.CheapestChange(s, l, weights, values)
			if !ok {
				is, ok := impl.IsContradictory(s, l)
				expectBool(t, fmt.Sprint("IsContradictory ", s, l), is, ok, true, true)
				continue
			}
			covers, ok := impl.IsCover(s, l, values, vars)
			expectBool(t, fmt.Sprint("IsCover ", s, l, values, vars), covers, ok, true, true)
			failed, _ := impl.FailedEdits(s, l, values)
			for _, i := range failed {
				involved, _ := impl.InvolvedIn(s, l[i])
				if !slices.ContainsFunc(involved, func(v int) bool { return slices.Contains(vars, v) }) {
					t.Error("CheapestChange misses an edit", s, l, values, vars, i)
				}
			}
			mended, _ := impl.MendValues(s, l, weights, values)
			is, ok := impl.IsMend(s, l, vars, values, mended)
			expectBool(t, fmt.Sprint("IsMend ", s, l, vars, values, mended), is, ok, true, true)
			whole, ok := impl.ChangeCost(s, weights, values, mended)
			expectInt(t, fmt.Sprint("ChangeCost ", s, l, values, mended), whole, ok, cost, true)
			if bound, packed, ok := impl.PackingBound(s, l, weights, values); ok && (bound > cost || (bound == 0) != (cost == 0)) {
				t.Error("PackingBound", s, l, weights, values, bound, packed, cost)
			}
		}
	}
}

// TestCoversAndCompletionsAgree says it with the functions alone.
func TestCoversAndCompletionsAgree(t *testing.T) {
	r := rand.New(rand.NewSource(77))
	for _, s := range fewCombinations() {
		for range 10 {
			l := denseEdits(r, s, r.Intn(12))
			if r.Intn(3) == 0 {
				l = randomEdits(r, s, r.Intn(40))
			}
			for range 3 {
				values := randomValues(r, s)
				for _, vars := range setsOfVariables(len(s)) {
					can, _ := impl.CanComplete(s, l, allBut(s, vars...), values)
					is, ok := impl.IsCover(s, l, values, vars)
					expectBool(t, fmt.Sprint("IsCover ", s, l, values, vars), is, ok, can, true)
				}
			}
		}
	}
}

func TestIsCoverExamples(t *testing.T) {
	s := schemaOf("sex2", "age3", "b2")
	l := []impl.Edit{edit(1, 6, 3), edit(2, 4, 3), edit(1, 1, 1)}
	for _, c := range []struct {
		l            []impl.Edit
		values, vars []int
		want         bool
	}{
		{nil, []int{1, 2, 1}, nil, true},
		{nil, []int{1, 2, 1}, []int{0, 1, 2}, true},
		{l, []int{0, 0, 1}, nil, true},
		{l, []int{0, 0, 1}, []int{2}, true},
		{l, []int{0, 0, 0}, nil, false},
		{l, []int{0, 0, 0}, []int{0}, true},
		{l, []int{0, 0, 0}, []int{1}, false},
		{l, []int{0, 0, 0}, []int{2}, true},
		{l, []int{0, 2, 1}, []int{0}, false},
		{l, []int{0, 2, 1}, []int{1}, true},
		{l, []int{0, 2, 0}, []int{0}, false},
		{l, []int{0, 2, 0}, []int{1}, false},
		{l, []int{0, 2, 0}, []int{0, 1}, true},
		{l, []int{0, 2, 0}, []int{1, 2}, true},
		{l, []int{0, 2, 0}, []int{0, 2}, false},
		{l, []int{0, 2, 0}, []int{0, 1, 2}, true},
		{l[:2], []int{1, 2, 0}, []int{0, 2}, false},
		{[]impl.Edit{edit(3, 7, 3)}, []int{1, 2, 0}, []int{0, 1, 2}, false},
		{[]impl.Edit{edit(3, 7, 3)}, []int{1, 2, 0}, nil, false},
		{[]impl.Edit{edit(1, 7, 3), edit(2, 7, 3)}, []int{0, 0, 0}, []int{0, 1, 2}, false},
	} {
		got, ok := impl.IsCover(s, c.l, c.values, c.vars)
		expectBool(t, fmt.Sprint("IsCover ", c), got, ok, c.want, true)
	}
}

func TestIsMendExamples(t *testing.T) {
	s := schemaOf("sex2", "age3", "b2")
	l := []impl.Edit{edit(1, 6, 3), edit(2, 4, 3), edit(1, 1, 1)}
	for _, c := range []struct {
		vars, values, mended []int
		want                 bool
	}{
		{nil, []int{0, 0, 1}, []int{0, 0, 1}, true},
		{[]int{0, 1, 2}, []int{0, 0, 1}, []int{0, 0, 1}, true},
		{nil, []int{0, 0, 0}, []int{0, 0, 0}, false},
		{[]int{0, 1, 2}, []int{0, 0, 0}, []int{0, 0, 0}, false},
		{[]int{0}, []int{0, 0, 0}, []int{1, 0, 0}, true},
		{[]int{0, 1}, []int{0, 0, 0}, []int{1, 0, 0}, true},
		{[]int{1, 2}, []int{0, 0, 0}, []int{1, 0, 0}, false},
		{nil, []int{0, 0, 0}, []int{1, 0, 0}, false},
		{[]int{0}, []int{0, 0, 0}, []int{1, 1, 0}, false},
		{[]int{1}, []int{0, 0, 0}, []int{1, 1, 0}, false},
		{[]int{0, 1}, []int{0, 0, 0}, []int{1, 1, 0}, true},
		{[]int{0, 1}, []int{0, 0, 0}, []int{1, 2, 0}, false},
		{[]int{2}, []int{0, 0, 0}, []int{0, 0, 1}, true},
		{[]int{0, 1, 2}, []int{1, 2, 0}, []int{0, 0, 1}, true},
		{[]int{0, 1, 2}, []int{1, 2, 0}, []int{0, 0, 0}, false},
		{nil, []int{1, 1, 0}, []int{1, 1, 1}, false},
		{[]int{2}, []int{1, 1, 0}, []int{1, 1, 1}, true},
	} {
		got, ok := impl.IsMend(s, l, c.vars, c.values, c.mended)
		expectBool(t, fmt.Sprint("IsMend ", c), got, ok, c.want, true)
	}
}

// TestIsMendOfNoValues has lists that are no values for the schema: shorter and
// longer ones, and ones with a level that a variable does not have.
func TestIsMendOfNoValues(t *testing.T) {
	s, l := schemaOf("sex2", "age3"), []impl.Edit{edit(1, 4)}
	for _, c := range []struct {
		vars, values, mended []int
		want                 bool
	}{
		{[]int{1}, []int{0, 2}, []int{0, 3}, false},
		{[]int{1}, []int{0, 2}, []int{0}, false},
		{[]int{1}, []int{0, 2}, []int{0, 1, 0}, false},
		{[]int{1}, []int{0, 2}, nil, false},
		{[]int{1}, []int{0, 2}, []int{}, false},
		{[]int{1}, []int{0, 2}, []int{0, -1}, false},
		{[]int{1}, []int{0, 2}, []int{0, 64}, false},
		{[]int{0}, []int{0, 2}, []int{2, 2}, false},
		{[]int{0}, []int{0, 2}, []int{-1, 2}, false},
		{[]int{0, 1}, []int{0, 2}, []int{1}, false},
		{[]int{0, 1}, []int{1, 2}, []int{1, 2, 2}, false},
		{nil, []int{1, 2}, []int{1}, false},
		{nil, []int{1, 2}, nil, false},
		{[]int{1}, []int{0, 2}, []int{0, 1}, true},
		{[]int{0}, []int{0, 2}, []int{1, 2}, true},
		{nil, []int{1, 2}, []int{1, 2}, true},
	} {
		got, ok := impl.IsMend(s, l, c.vars, c.values, c.mended)
		expectBool(t, fmt.Sprint("IsMend ", c), got, ok, c.want, true)
	}
}

// TestIsMendOfWrongValues asks for each schema and set of variables whether
// values, which pass or not, are mended to lists that are no values.
func TestIsMendOfWrongValues(t *testing.T) {
	for _, s := range fewCombinations() {
		zero := make([]int, len(s))
		b, lists := newEditTable(s), append(wrongValues(s), zero)
		for _, l := range [][]impl.Edit{nil, {editOfAll(s)}, {editOfValues(zero)}} {
			p := newRepair(b, l, ones(s))
			for _, vars := range setsOfVariables(len(s)) {
				checkMend(t, p, vars, zero, lists)
				checkMend(t, p, vars, farRecord(s).Values, lists)
			}
		}
	}
}

func TestCoversRefuseVariables(t *testing.T) {
	for _, s := range fewCombinations() {
		for _, vars := range wrongListsOfVariables(s) {
			for _, l := range [][]impl.Edit{nil, {editOfAll(s)}, {editOfValues(make([]int, len(s)))}} {
				refusesCover(t, s, l, vars, make([]int, len(s)))
				refusesCover(t, s, l, vars, farRecord(s).Values)
			}
		}
	}
}

func TestChangesRefuseWeights(t *testing.T) {
	for _, s := range fewCombinations() {
		zero := make([]int, len(s))
		for _, weights := range wrongWeights(s) {
			for _, l := range [][]impl.Edit{nil, {editOfAll(s)}, {editOfValues(zero)}} {
				refusesChange(t, s, l, weights, zero)
				refusesChange(t, s, l, weights, farRecord(s).Values)
			}
		}
	}
}

func TestChangesRefuseValues(t *testing.T) {
	for _, s := range fewCombinations() {
		zero := make([]int, len(s))
		for _, values := range wrongValues(s) {
			for _, l := range [][]impl.Edit{nil, {editOfAll(s)}, {editOfValues(zero)}} {
				refusesChange(t, s, l, ones(s), values)
				refusesCover(t, s, l, nil, values)
				refusesCover(t, s, l, allBut(s), values)
				is, ok := impl.IsMend(s, l, allBut(s), values, zero)
				expectBool(t, fmt.Sprintf("IsMend %v %v of %.100s", s, l, fmt.Sprint(values)), is, ok, false, false)
			}
		}
	}
}

// TestChapter7RefusesWrongLists gives wrong lists of edits to each function.
func TestChapter7RefusesWrongLists(t *testing.T) {
	for _, s := range fewCombinations() {
		for _, l := range wrongLists(s) {
			refusesChange(t, s, l, ones(s), make([]int, len(s)))
			refusesCover(t, s, l, []int{0}, farRecord(s).Values)
			refusesCover(t, s, l, nil, make([]int, len(s)))
			refusesDonors(t, s, l, ones(s), []impl.Record{farRecord(s)}, make([]int, len(s)))
			refusesDonors(t, s, l, ones(s), nil, make([]int, len(s)))
		}
	}
}

// TestChapter7LooksAtEachEdit places a wrong edit everywhere.
func TestChapter7LooksAtEachEdit(t *testing.T) {
	s := schemaOf("sex2", "age3")
	for n := 1; n <= 40; n += 3 {
		for place := range n {
			for _, bad := range []impl.Edit{edit(1, 8), edit(4, 1), edit(0, 7), edit(3, 0), edit(-1, 7), edit(1), edit(1, 1, 1)} {
				l := slices.Repeat([]impl.Edit{edit(1, 6)}, n)
				l[place] = bad
				refusesChange(t, s, l, []int{1, 1}, []int{1, 2})
				refusesCover(t, s, l, []int{0, 1}, []int{1, 2})
				refusesDonors(t, s, l, []int{1, 1}, []impl.Record{person(0, 0, 1, 2)}, []int{0, 2})
			}
		}
	}
}
