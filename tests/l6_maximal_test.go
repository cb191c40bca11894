package tests

import (
	"fmt"
	"math/rand"
	"slices"
	"testing"

	"loop.example/g00908/impl"
)

// checkMaximal calls the functions that return implied edits of a list, and
// EditsOnly with the given lists of variables.
func checkMaximal(t *testing.T, b editTable, l []impl.Edit, lists [][]int) {
	t.Helper()
	call := fmt.Sprint(b.s, l)
	want := b.maximalOf(l, anyEdit)
	got, ok := impl.MaximalEdits(b.s, l)
	expectEdits(t, "MaximalEdits "+call, got, ok, want, true)
	for v := range b.s {
		got, ok = impl.EliminateVariable(b.s, l, v)
		expectEdits(t, fmt.Sprint("EliminateVariable ", v, call), got, ok, b.eliminatedOf(l, v), true)
	}
	for _, vars := range lists {
		got, ok = impl.EditsOnly(b.s, l, vars)
		expectEdits(t, fmt.Sprint("EditsOnly ", vars, call), got, ok, onlyOf(b.s, want, vars), true)
	}
}

// checkImplied asks of each edit of a table whether it is implied.
func checkImplied(t *testing.T, b editTable, l []impl.Edit) {
	t.Helper()
	for _, e := range b.edits {
		got, ok := impl.IsImplied(b.s, l, e)
		expectBool(t, fmt.Sprint("IsImplied ", b.s, l, e), got, ok, b.implied(l, e), true)
	}
}

// TestImpliedByAllFewEdits goes through all short lists of edits.
func TestImpliedByAllFewEdits(t *testing.T) {
	for _, c := range []struct {
		s      []impl.Variable
		length int
	}{{schemaOf("b2"), 5}, {schemaOf("c3"), 3}, {schemaOf("b2", "a2"), 3}, {schemaOf("sex2", "age3"), 2}} {
		b, sets := newEditTable(c.s), setsOfVariables(len(c.s))
		for n := range c.length + 1 {
			for _, places := range allNumbers(n, 0, len(b.edits)-1) {
				var l []impl.Edit
				for _, i := range places {
					l = append(l, b.edits[i])
				}
				checkImplied(t, b, l)
				checkMaximal(t, b, l, sets)
				got, ok := impl.WithoutContained(c.s, l)
				expectEdits(t, fmt.Sprint("WithoutContained ", c.s, l), got, ok, withoutContainedOf(l), true)
			}
		}
	}
}

// TestImpliedByEachSetOfValues has for each set of lists of values the edits
// that just these fail.
func TestImpliedByEachSetOfValues(t *testing.T) {
	for _, s := range [][]impl.Variable{schemaOf("b2"), schemaOf("c3"), schemaOf("z8"), schemaOf("b2", "a2"), schemaOf("sex2", "age3"), schemaOf("a2", "b2", "c2")} {
		b, sets, lists := newEditTable(s), setsOfVariables(len(s)), listsOfValues(s)
		for _, failing := range append([]int{0}, setsOf(len(lists))...) {
			var l []impl.Edit
			for _, i := range levelsOfSet(failing) {
				l = append(l, editOfValues(lists[i]))
			}
			checkImplied(t, b, l)
			checkMaximal(t, b, l, sets)
		}
	}
}

func TestImpliedByRandomLists(t *testing.T) {
	r := rand.New(rand.NewSource(65))
	for _, s := range fewCombinations() {
		b, sets := newEditTable(s), setsOfVariables(len(s))
		for n := range 41 {
			l := randomEdits(r, s, n)
			checkMaximal(t, b, l, [][]int{nil, allBut(s), sets[r.Intn(len(sets))], sets[r.Intn(len(sets))]})
			for range 20 {
				e := randomEdit(r, s)
				got, ok := impl.IsImplied(s, l, e)
				expectBool(t, fmt.Sprint("IsImplied ", s, l, e), got, ok, b.implied(l, e), true)
			}
		}
	}
}

// TestSmallLimitIsMet has schemas with exactly MaxSmall lists of values, with
// a few less and with a few more.
func TestSmallLimitIsMet(t *testing.T) {
	r, met := rand.New(rand.NewSource(66)), map[int]bool{}
	for _, s := range schemasAbout(96, 112, 2, 3, 4, 5, 6) {
		total, _ := impl.CombinationCount(s)
		met[total] = true
		values := randomValues(r, s)
		for _, l := range [][]impl.Edit{nil, editsBut(s, values), randomEdits(r, s, 12)} {
			if total > 100 {
				refusesImplied(t, s, l, editOfAll(s), 0, []int{0}, values)
				continue
			}
			b := newEditTable(s)
			checkResolved(t, s, editOfAll(s), editOfValues(values))
			checkMaximal(t, b, l, [][]int{{0}})
			checkCompletions(t, s, l, [][]int{values}, [][]int{nil, {0}})
			implied, ok := impl.IsImplied(s, l, editOfAll(s))
			expectBool(t, fmt.Sprint("IsImplied ", s, l), implied, ok, b.implied(l, editOfAll(s)), true)
			kept, ok := impl.WithoutContained(s, l)
			expectEdits(t, fmt.Sprint("WithoutContained ", s, l), kept, ok, withoutContainedOf(l), true)
		}
	}
	for _, total := range []int{96, 98, 100, 105, 108, 112} {
		if !met[total] {
			t.Error("no schema with so many lists of values", total)
		}
	}
}

// refusesImplied calls all functions of chapter 6 with a schema or a list that
// they do not take.
func refusesImplied(t *testing.T, s []impl.Variable, l []impl.Edit, e impl.Edit, v int, vars, values []int) {
	t.Helper()
	refusesListOfImplied(t, s, l, e, v, vars, values)
	got, ok := impl.ResolveEdits(s, e, e, v)
	expectEdit(t, fmt.Sprint("ResolveEdits ", s, e, v), got, ok, impl.Edit{}, false)
}

// refusesListOfImplied calls the functions that need a list of edits.
func refusesListOfImplied(t *testing.T, s []impl.Variable, l []impl.Edit, e impl.Edit, v int, vars, values []int) {
	t.Helper()
	call := fmt.Sprintf("%.100s %.100s %v %v %.100s %.100s", fmt.Sprint(s), fmt.Sprint(l), e, v, fmt.Sprint(vars), fmt.Sprint(values))
	implied, ok := impl.IsImplied(s, l, e)
	expectBool(t, "IsImplied "+call, implied, ok, false, false)
	edits, ok := impl.WithoutContained(s, l)
	expectEdits(t, "WithoutContained "+call, edits, ok, nil, false)
	edits, ok = impl.MaximalEdits(s, l)
	expectEdits(t, "MaximalEdits "+call, edits, ok, nil, false)
	edits, ok = impl.EliminateVariable(s, l, v)
	expectEdits(t, "EliminateVariable "+call, edits, ok, nil, false)
	edits, ok = impl.EditsOnly(s, l, vars)
	expectEdits(t, "EditsOnly "+call, edits, ok, nil, false)
	is, ok := impl.IsContradictory(s, l)
	expectBool(t, "IsContradictory "+call, is, ok, false, false)
	refusesToComplete(t, s, l, vars, values)
	cover, ok := impl.SmallestCover(s, l, values)
	expectInts(t, "SmallestCover "+call, cover, ok, nil, false)
}

func TestMaximalEditsExamples(t *testing.T) {
	s := schemaOf("sex2", "age3")
	for _, c := range []struct{ l, want []impl.Edit }{
		{nil, nil},
		{[]impl.Edit{edit(1, 6), edit(2, 4)}, []impl.Edit{edit(1, 6), edit(3, 4)}},
		{[]impl.Edit{edit(2, 4), edit(1, 6), edit(2, 4)}, []impl.Edit{edit(1, 6), edit(3, 4)}},
		{[]impl.Edit{edit(1, 1)}, []impl.Edit{edit(1, 1)}},
		{[]impl.Edit{edit(1, 1), edit(2, 2)}, []impl.Edit{edit(1, 1), edit(2, 2)}},
		{[]impl.Edit{edit(1, 1), edit(2, 1)}, []impl.Edit{edit(3, 1)}},
		{[]impl.Edit{edit(2, 1), edit(2, 4), edit(2, 2)}, []impl.Edit{edit(2, 7)}},
		{[]impl.Edit{edit(1, 3), edit(2, 6)}, []impl.Edit{edit(1, 3), edit(2, 6), edit(3, 2)}},
		{[]impl.Edit{edit(3, 1), edit(1, 6)}, []impl.Edit{edit(1, 7), edit(3, 1)}},
		{[]impl.Edit{edit(1, 7), edit(2, 7)}, []impl.Edit{edit(3, 7)}},
		{[]impl.Edit{edit(3, 7)}, []impl.Edit{edit(3, 7)}},
		{[]impl.Edit{edit(3, 3), edit(1, 4), edit(2, 4)}, []impl.Edit{edit(3, 7)}},
	} {
		got, ok := impl.MaximalEdits(s, c.l)
		expectEdits(t, fmt.Sprint("MaximalEdits ", c.l), got, ok, c.want, true)
	}
}

// TestMaximalEditsAreImplied says promise 6 with the functions alone.
func TestMaximalEditsAreImplied(t *testing.T) {
	r := rand.New(rand.NewSource(67))
	for _, s := range fewCombinations() {
		for range 20 {
			l := randomEdits(r, s, r.Intn(20))
			maximal, _ := impl.MaximalEdits(s, l)
			for _, e := range maximal {
				implied, ok := impl.IsImplied(s, l, e)
				expectBool(t, fmt.Sprint("IsImplied ", s, l, e), implied, ok, true, true)
			}
			for range 20 {
				e := randomEdit(r, s)
				implied, _ := impl.IsImplied(s, l, e)
				inOne := slices.ContainsFunc(maximal, func(f impl.Edit) bool {
					contains, _ := impl.ContainsEdit(s, f, e)
					return contains
				})
				if implied != inOne {
					t.Error("IsImplied and MaximalEdits", s, l, e, implied, maximal)
				}
			}
			if len(maximal) > 40 {
				continue
			}
			again, ok := impl.MaximalEdits(s, maximal)
			expectEdits(t, fmt.Sprint("MaximalEdits of MaximalEdits ", s, l), again, ok, maximal, true)
			kept, ok := impl.WithoutContained(s, maximal)
			expectEdits(t, fmt.Sprint("WithoutContained of MaximalEdits ", s, l), kept, ok, maximal, true)
			for _, e := range l {
				implied, ok := impl.IsImplied(s, maximal, e)
				expectBool(t, fmt.Sprint("IsImplied by MaximalEdits ", s, maximal, e), implied, ok, true, true)
			}
		}
	}
}

// TestMaximalEditsAriseByResolution adds resolved edits until no new one is
// left, and compares with functions that look at no values.
func TestMaximalEditsAriseByResolution(t *testing.T) {
	r := rand.New(rand.NewSource(68))
	for _, s := range fewCombinations() {
		for range 10 {
			l := randomEdits(r, s, r.Intn(6))
			found := withoutContainedOf(l)
			for grown := true; grown; {
				all := slices.Clone(found)
				for i, e := range found {
					for _, f := range found[:i] {
						for v := range s {
							if resolved, ok := impl.ResolveEdits(s, e, f, v); ok {
								all = append(all, resolved)
							}
						}
					}
				}
				all = largestBySets(all)
				grown = !slices.EqualFunc(all, found, sameSets)
				found = all
			}
			got, ok := impl.MaximalEdits(s, l)
			expectEdits(t, fmt.Sprint("MaximalEdits ", s, l), got, ok, found, true)
		}
	}
}

// largestBySets does what WithoutContained does with a list of any length.
func largestBySets(l []impl.Edit) []impl.Edit {
	l = slices.Clone(l)
	slices.SortFunc(l, func(e, f impl.Edit) int { return slices.Compare(e.Sets, f.Sets) })
	l = slices.CompactFunc(l, sameSets)
	var kept []impl.Edit
	for i, e := range l {
		isIn := func(f impl.Edit) bool {
			for v, set := range e.Sets {
				if set|f.Sets[v] != f.Sets[v] {
					return false
				}
			}
			return !sameSets(e, f)
		}
		if !slices.ContainsFunc(l[:i], isIn) && !slices.ContainsFunc(l[i+1:], isIn) {
			kept = append(kept, e)
		}
	}
	return kept
}

func TestEliminateVariableExamples(t *testing.T) {
	s := schemaOf("sex2", "age3", "b2")
	l := []impl.Edit{edit(1, 6, 3), edit(2, 4, 3), edit(3, 3, 1), edit(3, 6, 2)}
	for _, c := range []struct {
		l    []impl.Edit
		v    int
		want []impl.Edit
	}{
		{l[:2], 0, []impl.Edit{edit(3, 4, 3)}},
		{l[:2], 1, nil},
		{l[:2], 2, []impl.Edit{edit(1, 6, 3), edit(3, 4, 3)}},
		{l[2:], 0, []impl.Edit{edit(3, 2, 3), edit(3, 3, 1), edit(3, 6, 2)}},
		{l[2:], 1, nil},
		{l[2:], 2, []impl.Edit{edit(3, 2, 3)}},
		{l, 0, []impl.Edit{edit(3, 6, 3), edit(3, 7, 1)}},
		{l, 1, []impl.Edit{edit(3, 7, 1)}},
		{l, 2, []impl.Edit{edit(3, 6, 3)}},
		{[]impl.Edit{edit(1, 1, 1), edit(2, 7, 3)}, 0, []impl.Edit{edit(3, 1, 1)}},
		{[]impl.Edit{edit(1, 1, 1), edit(2, 7, 3)}, 1, []impl.Edit{edit(2, 7, 3)}},
		{[]impl.Edit{edit(1, 1, 1), edit(2, 7, 3), edit(1, 7, 2)}, 2, []impl.Edit{edit(2, 7, 3), edit(3, 1, 3)}},
		{[]impl.Edit{edit(3, 7, 3)}, 1, []impl.Edit{edit(3, 7, 3)}},
		{nil, 1, nil},
	} {
		got, ok := impl.EliminateVariable(s, c.l, c.v)
		expectEdits(t, fmt.Sprint("EliminateVariable ", c.l, c.v), got, ok, c.want, true)
	}
}

// TestEliminateVariableInvolved has a variable that is involved in all edits, in
// some and in none.
func TestEliminateVariableInvolved(t *testing.T) {
	r := rand.New(rand.NewSource(69))
	for _, s := range fewCombinations() {
		b := newEditTable(s)
		for v := range s {
			for n := range 10 {
				l := randomEdits(r, s, n)
				for _, share := range []int{0, 1, 2} {
					for i, e := range l {
						sets := setsOf(s[v].Levels)
						e.Sets[v] = sets[r.Intn(len(sets)-1)]
						if share*(i+1) > n {
							e.Sets[v] = sets[len(sets)-1]
						}
					}
					got, ok := impl.EliminateVariable(s, l, v)
					expectEdits(t, fmt.Sprint("EliminateVariable ", s, l, v), got, ok, b.eliminatedOf(l, v), true)
				}
			}
		}
	}
}

// TestEliminateOnlyVariable has schemas of one variable.
func TestEliminateOnlyVariable(t *testing.T) {
	for _, s := range [][]impl.Variable{schemaOf("a2"), schemaOf("abcdefgh3"), schemaOf("z8")} {
		var l []impl.Edit
		for level := range s[0].Levels {
			got, ok := impl.EliminateVariable(s, l, 0)
			expectEdits(t, fmt.Sprint("EliminateVariable ", s, l), got, ok, nil, true)
			l = append(l, edit(setOf(level)))
		}
		got, ok := impl.EliminateVariable(s, l, 0)
		expectEdits(t, fmt.Sprint("EliminateVariable ", s, l), got, ok, []impl.Edit{editOfAll(s)}, true)
	}
}

// TestEliminationKeepsCompletions says promise 6 with the functions alone.
func TestEliminationKeepsCompletions(t *testing.T) {
	r := rand.New(rand.NewSource(70))
	for _, s := range fewCombinations() {
		for range 10 {
			l := randomEdits(r, s, r.Intn(20))
			for v := range s {
				eliminated, _ := impl.EliminateVariable(s, l, v)
				for range 10 {
					values := randomValues(r, s)
					fails := slices.ContainsFunc(eliminated, func(e impl.Edit) bool {
						fails, _ := impl.FailsEdit(s, e, values)
						return fails
					})
					can, ok := impl.CanComplete(s, l, allBut(s, v), values)
					expectBool(t, fmt.Sprint("CanComplete ", s, l, v, values), can, ok, !fails, true)
				}
			}
		}
	}
}

func TestEditsOnlyExamples(t *testing.T) {
	s := schemaOf("sex2", "age3", "b2")
	l := []impl.Edit{edit(1, 6, 3), edit(2, 4, 3), edit(3, 3, 1), edit(2, 3, 2)}
	all := []impl.Edit{edit(2, 7, 3), edit(3, 6, 3), edit(3, 7, 1)}
	for _, c := range []struct {
		l    []impl.Edit
		vars []int
		want []impl.Edit
	}{
		{l, []int{0, 1, 2}, all},
		{l, []int{0}, all[:1]},
		{l, []int{1}, all[1:2]},
		{l, []int{2}, all[2:]},
		{l, []int{0, 1}, all[:2]},
		{l, []int{0, 2}, []impl.Edit{all[0], all[2]}},
		{l, []int{1, 2}, all[1:]},
		{l, nil, nil},
		{l[:2], []int{0, 1}, []impl.Edit{edit(1, 6, 3), edit(3, 4, 3)}},
		{l[:2], []int{1, 2}, []impl.Edit{edit(3, 4, 3)}},
		{l[:2], []int{0, 2}, nil},
		{nil, []int{0, 1, 2}, nil},
		{nil, []int{}, nil},
		{append(slices.Clone(l), edit(1, 1, 2)), nil, []impl.Edit{edit(3, 7, 3)}},
		{append(slices.Clone(l), edit(1, 1, 2)), []int{1}, []impl.Edit{edit(3, 7, 3)}},
	} {
		got, ok := impl.EditsOnly(s, c.l, c.vars)
		expectEdits(t, fmt.Sprint("EditsOnly ", c.l, c.vars), got, ok, c.want, true)
	}
}

func TestEditsOnlyRefusesVariables(t *testing.T) {
	for _, s := range fewCombinations() {
		for _, vars := range wrongListsOfVariables(s) {
			for _, l := range [][]impl.Edit{nil, {editOfAll(s)}, {editOfValues(make([]int, len(s)))}} {
				got, ok := impl.EditsOnly(s, l, vars)
				expectEdits(t, fmt.Sprint("EditsOnly ", s, l, vars), got, ok, nil, false)
			}
		}
	}
}

func TestEliminateVariableRefusesVariables(t *testing.T) {
	for _, s := range fewCombinations() {
		for _, v := range wrongVariables(s) {
			for _, l := range [][]impl.Edit{nil, {editOfAll(s)}, {editOfValues(make([]int, len(s)))}} {
				got, ok := impl.EliminateVariable(s, l, v)
				expectEdits(t, fmt.Sprint("EliminateVariable ", s, l, v), got, ok, nil, false)
			}
		}
	}
}

// TestMoreThanMaxEdits has lists of which more edits than MaxEdits are maximal.
func TestMoreThanMaxEdits(t *testing.T) {
	for _, c := range []struct {
		s                         []impl.Variable
		maximal, eliminated, only int
	}{
		{schemaOf("a8", "b8"), 254, 0, 254},
		{schemaOf("a7", "b7", "c2"), 126, 126, 126},
		{schemaOf("a6", "b6", "c2"), 62, 62, 62},
		{schemaOf("a6", "b8", "c2"), 63, 63, 63},
		{schemaOf("a5", "b5", "c4"), 30, 30, 30},
	} {
		b, l := newEditTable(c.s), offDiagonal(c.s)
		last := len(c.s) - 1
		checkMaximal(t, b, l, [][]int{{0, 1}, allBut(c.s), {0}, {last}})
		maximal, _ := impl.MaximalEdits(c.s, l)
		eliminated, _ := impl.EliminateVariable(c.s, l, last)
		only, _ := impl.EditsOnly(c.s, l, []int{0, 1})
		if len(maximal) != c.maximal || len(eliminated) != c.eliminated || len(only) != c.only {
			t.Error("maximal edits", c.s, len(maximal), len(eliminated), len(only))
		}
	}
}

// TestImpliedByMostEdits has lists of MaxEdits edits and more.
func TestImpliedByMostEdits(t *testing.T) {
	for _, s := range fewCombinations() {
		b, zero := newEditTable(s), make([]int, len(s))
		for _, n := range []int{39, 40, 41, 42, 80, 1000} {
			for _, e := range []impl.Edit{editOfAll(s), editOfValues(zero)} {
				l := slices.Repeat([]impl.Edit{e}, n)
				if n > 40 {
					refusesListOfImplied(t, s, l, e, 0, []int{0}, zero)
					continue
				}
				checkImplied(t, b, l)
				checkMaximal(t, b, l, [][]int{{0}})
				checkCompletions(t, s, l, [][]int{zero, farRecord(s).Values}, [][]int{nil, {0}})
			}
		}
	}
}

// TestChapter6RefusesWrongLists gives wrong lists of edits to each function.
func TestChapter6RefusesWrongLists(t *testing.T) {
	for _, s := range fewCombinations() {
		for _, l := range wrongLists(s) {
			refusesListOfImplied(t, s, l, editOfAll(s), 0, []int{0}, make([]int, len(s)))
			refusesListOfImplied(t, s, l, editOfValues(farRecord(s).Values), len(s)-1, nil, farRecord(s).Values)
		}
	}
}

// TestChapter6LooksAtEachEdit places a wrong edit everywhere.
func TestChapter6LooksAtEachEdit(t *testing.T) {
	s := schemaOf("sex2", "age3")
	for n := 1; n <= 40; n++ {
		for place := range n {
			for _, bad := range []impl.Edit{edit(1, 8), edit(4, 1), edit(0, 7), edit(3, 0), edit(-1, 7), edit(1), edit(1, 1, 1)} {
				l := slices.Repeat([]impl.Edit{edit(3, 7)}, n)
				l[place] = bad
				refusesListOfImplied(t, s, l, edit(3, 7), 0, []int{0, 1}, []int{1, 2})
			}
		}
	}
}
