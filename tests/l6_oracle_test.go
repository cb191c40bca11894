package tests

import (
	"fmt"
	"math"
	"math/bits"
	"math/rand"
	"slices"
	"testing"

	"loop.example/g00908/impl"
)

// marks has one bit for each of up to 128 lists of values.
type marks [2]uint64

func (m marks) or(other marks) marks    { return marks{m[0] | other[0], m[1] | other[1]} }
func (m marks) and(other marks) marks   { return marks{m[0] & other[0], m[1] & other[1]} }
func (m marks) within(other marks) bool { return m.and(other) == m }
func (m marks) count() int              { return bits.OnesCount64(m[0]) + bits.OnesCount64(m[1]) }

// editTable has all edits for a small schema, in order, and which lists of
// values fail each of them.
type editTable struct {
	s       []impl.Variable
	having  [][]marks
	all     marks
	edits   []impl.Edit
	failing []marks
}

func newEditTable(s []impl.Variable) editTable {
	b := editTable{s: s, edits: allEdits(s)}
	for _, v := range s {
		b.having = append(b.having, make([]marks, v.Levels))
	}
	for n, values := range listsOfValues(s) {
		var one marks
		one[n/64] = 1 << (n % 64)
		b.all = b.all.or(one)
		for i, x := range values {
			b.having[i][x] = b.having[i][x].or(one)
		}
	}
	for _, e := range b.edits {
		b.failing = append(b.failing, b.marksOf(e))
	}
	return b
}

// marksOf marks the lists of values that fail an edit.
func (b editTable) marksOf(e impl.Edit) marks {
	failing := b.all
	for i, set := range e.Sets {
		var some marks
		for _, level := range levelsOfSet(set) {
			some = some.or(b.having[i][level])
		}
		failing = failing.and(some)
	}
	return failing
}

// marksOfList marks the lists of values that fail at least one edit.
func (b editTable) marksOfList(l []impl.Edit) marks {
	var failing marks
	for _, e := range l {
		failing = failing.or(b.marksOf(e))
	}
	return failing
}

// implied says what IsImplied must say.
func (b editTable) implied(l []impl.Edit, e impl.Edit) bool {
	return b.marksOf(e).within(b.marksOfList(l))
}

// maximalOf says what MaximalEdits must return, or EliminateVariable if only
// edits of a kind are looked at. The edits that most lists of values fail come
// first, and so those that contain others.
func (b editTable) maximalOf(l []impl.Edit, isOfKind func(e impl.Edit) bool) []impl.Edit {
	union := b.marksOfList(l)
	var places []int
	for i, failing := range b.failing {
		if failing.within(union) && isOfKind(b.edits[i]) {
			places = append(places, i)
		}
	}
	slices.SortFunc(places, func(i, k int) int { return b.failing[k].count() - b.failing[i].count() })
	var kept []int
	for _, i := range places {
		if !slices.ContainsFunc(kept, func(k int) bool { return b.failing[i].within(b.failing[k]) }) {
			kept = append(kept, i)
		}
	}
	slices.Sort(kept)
	var maximal []impl.Edit
	for _, i := range kept {
		maximal = append(maximal, b.edits[i])
	}
	return maximal
}

func anyEdit(impl.Edit) bool { return true }

// involvesOnly returns a function that says whether an edit involves no
// variables but the given ones.
func involvesOnly(s []impl.Variable, vars []int) func(e impl.Edit) bool {
	return func(e impl.Edit) bool {
		for _, v := range involvedOf(s, e) {
			if !slices.Contains(vars, v) {
				return false
			}
		}
		return true
	}
}

// allBut returns the variables of a schema without some.
func allBut(s []impl.Variable, vars ...int) []int {
	var others []int
	for v := range s {
		if !slices.Contains(vars, v) {
			others = append(others, v)
		}
	}
	return others
}

// eliminatedOf says what EliminateVariable must return.
func (b editTable) eliminatedOf(l []impl.Edit, v int) []impl.Edit {
	return b.maximalOf(l, involvesOnly(b.s, allBut(b.s, v)))
}

// onlyOf says what EditsOnly must return: among those of MaximalEdits.
func onlyOf(s []impl.Variable, maximal []impl.Edit, vars []int) []impl.Edit {
	var only []impl.Edit
	for _, e := range maximal {
		if involvesOnly(s, vars)(e) {
			only = append(only, e)
		}
	}
	return only
}

// withoutContainedOf says what WithoutContained must return.
func withoutContainedOf(l []impl.Edit) []impl.Edit {
	var kept []impl.Edit
	for i, e := range l {
		isKept := true
		for k, other := range l {
			same := sameSets(e, other)
			isKept = isKept && (same && i <= k || !same && !containsOf(other, e))
		}
		if isKept {
			place := 0
			for place < len(kept) && slices.Compare(kept[place].Sets, e.Sets) < 0 {
				place++
			}
			kept = slices.Insert(kept, place, e)
		}
	}
	return kept
}

func sameSets(e, f impl.Edit) bool { return slices.Equal(e.Sets, f.Sets) }

// resolvedOf says what ResolveEdits must return: it looks at the levels one by
// one.
func resolvedOf(s []impl.Variable, e, f impl.Edit, v int) (impl.Edit, bool) {
	var resolved impl.Edit
	for i := range s {
		var levels []int
		for level := range s[i].Levels {
			inE, inF := slices.Contains(levelsOfSet(e.Sets[i]), level), slices.Contains(levelsOfSet(f.Sets[i]), level)
			if inE && inF || i == v && (inE || inF) {
				levels = append(levels, level)
			}
		}
		if levels == nil {
			return impl.Edit{}, false
		}
		resolved.Sets = append(resolved.Sets, setOf(levels...))
	}
	return resolved, true
}

// completionsOf returns those of the values that pass, given in lexicographic
// order, that agree with the given ones in the fixed variables.
func completionsOf(passing [][]int, fixed, values []int) [][]int {
	var completions [][]int
	for _, l := range passing {
		agrees := true
		for _, v := range fixed {
			agrees = agrees && l[v] == values[v]
		}
		if agrees {
			completions = append(completions, l)
		}
	}
	return completions
}

// setsOfVariables returns all sets of n variables, by their size and then
// lexicographically.
func setsOfVariables(n int) [][]int {
	sets := [][]int{nil}
	for v := range n {
		for _, set := range slices.Clone(sets) {
			sets = append(sets, append(slices.Clone(set), v))
		}
	}
	slices.SortFunc(sets, func(a, b []int) int {
		if len(a) != len(b) {
			return len(a) - len(b)
		}
		return slices.Compare(a, b)
	})
	return sets
}

// coverOf says what SmallestCover must return: it tries the sets in order.
func coverOf(s []impl.Variable, passing [][]int, values []int) ([]int, bool) {
	for _, set := range setsOfVariables(len(s)) {
		if completionsOf(passing, allBut(s, set...), values) != nil {
			return set, true
		}
	}
	return nil, false
}

// fewCombinations are those of smallSchemas that chapter 6 takes.
func fewCombinations() [][]impl.Variable {
	var few [][]impl.Variable
	for _, s := range smallSchemas() {
		if len(listsOfValues(s)) <= 100 {
			few = append(few, s)
		}
	}
	return few
}

// wrongVariables are no indices of variables of a schema.
func wrongVariables(s []impl.Variable) []int {
	n := len(s)
	return []int{-1, -2, -n, -n - 1, n, n + 1, 2 * n, 64, 1 << 32, 1<<32 + 1, math.MaxInt, math.MaxInt - 1, math.MinInt, math.MinInt + 1}
}

// wrongListsOfVariables are no strictly increasing lists of indices.
func wrongListsOfVariables(s []impl.Variable) [][]int {
	full := allBut(s)
	last := len(s) - 1
	l := [][]int{{0, 0}, {last, last}, append([]int{0}, full...), append(slices.Clone(full), last), append(slices.Clone(full), 0), make([]int, 1000), append(slices.Clone(full), len(s), len(s)+1)}
	if last > 0 {
		l = append(l, []int{last, 0}, []int{1, 0}, []int{0, 1, 0}, []int{0, last, last}, []int{last, last - 1})
		falling := slices.Clone(full)
		slices.Reverse(falling)
		l = append(l, falling)
	}
	for _, v := range wrongVariables(s) {
		l = append(l, []int{v}, append([]int{v}, full...), append(slices.Clone(full), v), []int{0, v}, []int{v, last}, []int{v, v})
	}
	return l
}

// offDiagonal returns edits that the values of the variables 0 and 1 fail unless
// they are equal. Each set of levels but the least and the greatest one, with
// the other levels for the second variable, is then a maximal edit.
func offDiagonal(s []impl.Variable) []impl.Edit {
	var l []impl.Edit
	for level := range s[0].Levels {
		e := editOfAll(s)
		e.Sets[0] = setOf(level)
		e.Sets[1] -= setOf(level)
		l = append(l, e)
	}
	return l
}

func expectEdits(t *testing.T, call string, got []impl.Edit, ok bool, want []impl.Edit, wantOK bool) {
	t.Helper()
	if !slices.EqualFunc(got, want, sameSets) || ok != wantOK {
		t.Errorf("%.300s is %v %v, not %v %v", call, got, ok, want, wantOK)
	}
}

func TestSmallLimit(t *testing.T) {
	if impl.MaxSmall != 100 {
		t.Error("limit", impl.MaxSmall)
	}
}

func TestOracleKnowsImpliedEdits(t *testing.T) {
	r := rand.New(rand.NewSource(60))
	for _, s := range fewCombinations() {
		b := newEditTable(s)
		if !slices.IsSortedFunc(b.edits, func(e, f impl.Edit) int { return slices.Compare(e.Sets, f.Sets) }) {
			t.Error("edits out of order", s)
		}
		if b.all.count() != len(listsOfValues(s)) {
			t.Error("lists of values", s, b.all)
		}
		for range 20 {
			e, f := randomEdit(r, s), randomEdit(r, s)
			if n := len(failingOf(e)); b.marksOf(e).count() != n {
				t.Error("values that fail", s, e, n, b.marksOf(e))
			}
			if b.marksOf(f).within(b.marksOf(e)) != containsOf(e, f) {
				t.Error("contained", s, e, f)
			}
		}
		for _, l := range wrongListsOfVariables(s) {
			if slices.ContainsFunc(setsOfVariables(len(s)), func(set []int) bool { return slices.Equal(set, l) }) {
				t.Error("should not be a list of variables", s, l)
			}
		}
	}
	if got := fmt.Sprint(setsOfVariables(3)); got != "[[] [0] [1] [2] [0 1] [0 2] [1 2] [0 1 2]]" {
		t.Error("sets of variables", got)
	}
}
