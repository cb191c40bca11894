package tests

import (
	"fmt"
	"math"
	"math/rand"
	"slices"
	"testing"

	"loop.example/g00908/impl"
)

// repair is what the functions of chapter 7 are given, with what they need to
// know of it: the values that pass and the maximal edits.
type repair struct {
	s       []impl.Variable
	l       []impl.Edit
	weights []int
	passing [][]int
	maximal []impl.Edit
}

// newRepair looks for the values that pass and for the maximal edits by itself.
func newRepair(b editTable, l []impl.Edit, weights []int) repair {
	return repair{s: b.s, l: l, weights: weights, passing: passingOf(b.s, l), maximal: b.maximalOf(l, anyEdit)}
}

// weightOf adds up the weights of some variables.
func (p repair) weightOf(vars []int) int {
	sum := 0
	for _, v := range vars {
		sum += p.weights[v]
	}
	return sum
}

// costOf says what ChangeCost must return.
func (p repair) costOf(a, b []int) int {
	cost := 0
	for v := range p.s {
		if a[v] != b[v] {
			cost += p.weights[v]
		}
	}
	return cost
}

// changeOf says what CheapestChange must return: it tries the sets in order of
// their size and then lexicographically.
func (p repair) changeOf(values []int) ([]int, int, bool) {
	var cheapest []int
	least, found := 0, false
	for _, set := range setsOfVariables(len(p.s)) {
		cost := p.weightOf(set)
		if (!found || cost < least) && completionsOf(p.passing, allBut(p.s, set...), values) != nil {
			cheapest, least, found = set, cost, true
		}
	}
	return cheapest, least, found
}

// mendedOf says what MendValues must return.
func (p repair) mendedOf(values []int) ([]int, bool) {
	set, _, ok := p.changeOf(values)
	if !ok {
		return nil, false
	}
	return completionsOf(p.passing, allBut(p.s, set...), values)[0], true
}

// covers says what IsCover must say.
func (p repair) covers(values, vars []int) bool {
	for _, e := range p.maximal {
		if forbids(e, values) && !slices.ContainsFunc(involvedOf(p.s, e), func(v int) bool { return slices.Contains(vars, v) }) {
			return false
		}
	}
	return true
}

// mends says what IsMend must say, also of a list that is no list of values.
func (p repair) mends(vars, values, mended []int) bool {
	if !recordIsGood(p.s, person(0, 0, mended...)) {
		return false
	}
	for _, v := range allBut(p.s, vars...) {
		if values[v] != mended[v] {
			return false
		}
	}
	return failedOf(p.l, mended) == nil
}

// packingOf says what PackingBound must return. It adds each failed edit to the
// packings without it, so that the packings are in the order of their numbers.
func (p repair) packingOf(values []int) (int, []int, bool) {
	failed := failedOf(p.maximal, values)
	if len(failed) > 12 {
		return 0, nil, false
	}
	packings, sums, used := [][]int{nil}, []int{0}, [][]int{nil}
	for _, i := range failed {
		involved := involvedOf(p.s, p.maximal[i])
		if len(involved) == 0 {
			return 0, nil, false
		}
		bound := 100
		for _, v := range involved {
			bound = min(bound, p.weights[v])
		}
		for n := range len(packings) {
			if !slices.ContainsFunc(involved, func(v int) bool { return slices.Contains(used[n], v) }) {
				packings = append(packings, append(slices.Clone(packings[n]), i))
				used = append(used, slices.Concat(used[n], involved))
				sums = append(sums, sums[n]+bound)
			}
		}
	}
	best := 0
	for n, sum := range sums {
		if sum > sums[best] {
			best = n
		}
	}
	return sums[best], packings[best], true
}

// failingIn says what FailingRecords must return.
func (p repair) failingIn(data []impl.Record) []int {
	var failing []int
	for i, r := range data {
		if failedOf(p.l, r.Values) != nil {
			failing = append(failing, i)
		}
	}
	return failing
}

// donorIn says what NearestDonor must return: it looks for a donor at each cost,
// the least one first.
func (p repair) donorIn(data []impl.Record, values []int) (int, bool) {
	for cost := range 601 {
		for i, r := range data {
			if p.costOf(r.Values, values) == cost && failedOf(p.l, r.Values) == nil {
				return i, true
			}
		}
	}
	return 0, false
}

// donorMendOf says what DonorMend must return.
func (p repair) donorMendOf(values, donor []int) ([]int, bool, bool) {
	set, _, ok := p.changeOf(values)
	if !ok {
		return nil, false, false
	}
	var replaced []int
	for v := range p.s {
		from := values
		if slices.Contains(set, v) {
			from = donor
		}
		replaced = append(replaced, from[v])
	}
	if failedOf(p.l, replaced) == nil {
		return replaced, true, true
	}
	mended, ok := p.mendedOf(values)
	return mended, false, ok
}

// mendedDataOf says what MendData must return.
func (p repair) mendedDataOf(data []impl.Record) ([]impl.Record, []int, bool) {
	mended, costs := copyData(data), make([]int, len(data))
	for _, i := range p.failingIn(data) {
		values, ok := p.mendedOf(data[i].Values)
		if !ok {
			return nil, nil, false
		}
		mended[i].Values = values
		_, costs[i], _ = p.changeOf(data[i].Values)
	}
	return mended, costs, true
}

// weightsAreGood says whether weights are ones for a valid schema.
func weightsAreGood(s []impl.Variable, weights []int) bool {
	for _, w := range weights {
		if w <= 0 || w > 100 {
			return false
		}
	}
	return len(weights) == len(s)
}

// ones returns the least weights.
func ones(s []impl.Variable) []int { return slices.Repeat([]int{1}, len(s)) }

// randomWeights returns weights for a schema: of all sizes, the greatest and the
// least, or small ones of which many sets have the same sum.
func randomWeights(r *rand.Rand, s []impl.Variable) []int {
	weights := ones(s)
	kind := r.Intn(3)
	for v := range weights {
		switch kind {
		case 0:
			weights[v] = 1 + r.Intn(100)
		case 1:
			weights[v] = 1 + r.Intn(2)*99
		default:
			weights[v] = 1 + r.Intn(3)
		}
	}
	return weights
}

// wrongWeights returns lists that are not weights for a valid schema.
func wrongWeights(s []impl.Variable) [][]int {
	good := ones(s)
	l := [][]int{nil, good[1:], append(slices.Clone(good), 1), append([]int{100}, good...), make([]int, len(s)), slices.Repeat([]int{1}, 2*len(s)), slices.Repeat([]int{1}, 1000)}
	for v := range s {
		for _, w := range []int{0, -1, -2, -100, 101, 102, 200, 256, 257, 1<<32 + 1, 1 << 62, math.MaxInt, math.MaxInt - 1, math.MinInt, math.MinInt + 1} {
			bad := slices.Clone(good)
			bad[v] = w
			l = append(l, bad)
		}
	}
	return l
}

// editOfZeros returns the edit that values fail in which the variables are 0.
func editOfZeros(s []impl.Variable, vars []int) impl.Edit {
	e := editOfAll(s)
	for _, v := range vars {
		e.Sets[v] = setOf(0)
	}
	return e
}

// editsOfZeros returns editOfZeros of each set. If all variables have two levels
// and none of the sets contains another one, these are the maximal edits.
func editsOfZeros(s []impl.Variable, sets ...[]int) []impl.Edit {
	var l []impl.Edit
	for _, vars := range sets {
		l = append(l, editOfZeros(s, vars))
	}
	return l
}

// setsOfSize returns the sets of so many of n variables, in lexicographic order.
func setsOfSize(n, size int) [][]int {
	return slices.DeleteFunc(setsOfVariables(n), func(set []int) bool { return len(set) != size })
}

func expectChange(t *testing.T, call string, vars []int, cost int, ok bool, want []int, wantCost int, wantOK bool) {
	t.Helper()
	if !slices.Equal(vars, want) || cost != wantCost || ok != wantOK {
		t.Errorf("%.300s is %v %v %v, not %v %v %v", call, vars, cost, ok, want, wantCost, wantOK)
	}
}

func expectDonorMend(t *testing.T, call string, got []int, used, ok bool, want []int, wantUsed, wantOK bool) {
	t.Helper()
	if !slices.Equal(got, want) || used != wantUsed || ok != wantOK {
		t.Errorf("%.300s is %v %v %v, not %v %v %v", call, got, used, ok, want, wantUsed, wantOK)
	}
}

func expectMendedData(t *testing.T, call string, got []impl.Record, costs []int, ok bool, want []impl.Record, wantCosts []int, wantOK bool) {
	t.Helper()
	if !slices.EqualFunc(got, want, sameRecord) || !slices.Equal(costs, wantCosts) || ok != wantOK {
		t.Errorf("%.300s is %v %v %v, not %v %v %v", call, got, costs, ok, want, wantCosts, wantOK)
	}
}

func TestWeightLimit(t *testing.T) {
	if impl.MaxChangeWeight != 100 {
		t.Error("limit", impl.MaxChangeWeight)
	}
}

// TestOracleKnowsChanges compares the cheapest set of variables with those in
// which the values that pass differ from the given ones.
func TestOracleKnowsChanges(t *testing.T) {
	r := rand.New(rand.NewSource(700))
	for _, s := range fewCombinations() {
		b := newEditTable(s)
		for range 10 {
			p := newRepair(b, randomEdits(r, s, r.Intn(20)), randomWeights(r, s))
			values := randomValues(r, s)
			set, cost, ok := p.changeOf(values)
			if ok != (len(p.passing) > 0) || ok && !p.covers(values, set) {
				t.Error("should be a change", s, p.l, values, set)
			}
			for _, passing := range p.passing {
				if p.costOf(values, passing) < cost {
					t.Error("costs less", s, p.l, values, set, passing)
				}
			}
		}
		for _, weights := range wrongWeights(s) {
			if weightsAreGood(s, weights) {
				t.Error("should not be weights", s, weights)
			}
		}
		if weights := randomWeights(r, s); !weightsAreGood(s, weights) {
			t.Error("should be weights", s, weights)
		}
	}
}

// TestOracleKnowsMaximalEditsOfZeros has edits of which it is known which ones
// are maximal.
func TestOracleKnowsMaximalEditsOfZeros(t *testing.T) {
	s := schemaOf("d2", "a2", "f2", "b2", "c2", "e2")
	b := newEditTable(s)
	for size := 1; size <= 6; size++ {
		l := editsOfZeros(s, setsOfSize(6, size)...)
		maximal := b.maximalOf(l, anyEdit)
		slices.SortFunc(l, func(e, f impl.Edit) int { return slices.Compare(e.Sets, f.Sets) })
		expectEdits(t, fmt.Sprint("the oracle ", size), maximal, true, l, true)
	}
}
