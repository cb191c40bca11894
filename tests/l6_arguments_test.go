package tests

import (
	"fmt"
	"slices"
	"testing"

	"loop.example/g00908/impl"
)

// TestChapter6RefusesInvalidSchemas gives edits and values that have as many
// elements as the schema has variables, and others.
func TestChapter6RefusesInvalidSchemas(t *testing.T) {
	for _, s := range invalidSchemas() {
		for _, e := range []impl.Edit{{}, {Sets: slices.Repeat([]int{1}, len(s))}, edit(1), edit(1, 1), edit(extremeInts()...)} {
			for _, values := range [][]int{nil, make([]int, len(s)), {0}} {
				refusesImplied(t, s, []impl.Edit{e}, e, 0, nil, values)
				refusesImplied(t, s, nil, e, 0, []int{0}, values)
				refusesImplied(t, s, nil, e, -1, values, values)
			}
		}
	}
}

// TestChapter6RefusesLargeSchemas has schemas that chapter 5 takes.
func TestChapter6RefusesLargeSchemas(t *testing.T) {
	for _, s := range append(smallSchemas(), largestSchema()) {
		if n, _ := impl.CombinationCount(s); n <= 100 {
			continue
		}
		zero := make([]int, len(s))
		for _, e := range []impl.Edit{editOfAll(s), editOfValues(zero)} {
			for _, l := range [][]impl.Edit{nil, {e}, slices.Repeat([]impl.Edit{e}, 40), editsBut(s, zero)} {
				refusesImplied(t, s, l, e, 0, nil, zero)
				refusesImplied(t, s, l, e, len(s)-1, allBut(s), farRecord(s).Values)
			}
		}
	}
}

// TestChapter6AcceptsAllNumbers fails also by the panic of a call.
func TestChapter6AcceptsAllNumbers(t *testing.T) {
	s := schemaOf("age3", "b2")
	b, lists, sets := newEditTable(s), listsOfValues(s), setsOfVariables(2)
	l := []impl.Edit{edit(6, 3), edit(1, 1)}
	numbers := append(extremeInts(), 3, 4, 5, 6, 7, 8, 1<<32, 1<<32+1, 1<<62, -1<<62)
	for _, x := range numbers {
		acceptsVariable(t, b, l, x)
		for _, y := range numbers {
			acceptsEditOfImplied(t, b, edit(x, y), edit(5, 3))
			acceptsValuesToComplete(t, s, l, []int{x, y})
			acceptsVariables(t, b, l, []int{x, y})
			callChapter6([]impl.Variable{{Name: "a", Levels: x}, {Name: "b", Levels: y}}, []impl.Edit{edit(x, y), edit(1, 1)}, x, []int{y}, []int{x, y})
			callChapter6(s, []impl.Edit{edit(7, 3), edit(x, y)}, y, []int{x, y}, []int{y, x})
		}
	}
	checkMaximal(t, b, l, sets)
	checkCompletions(t, s, l, lists, sets)
}

// acceptsVariable calls the functions with a number that is a variable or not.
func acceptsVariable(t *testing.T, b editTable, l []impl.Edit, v int) {
	t.Helper()
	eliminated, ok := impl.EliminateVariable(b.s, l, v)
	resolved, resolvedOK := impl.ResolveEdits(b.s, l[0], l[0], v)
	if v != 0 && v != 1 {
		expectEdits(t, fmt.Sprint("EliminateVariable ", v), eliminated, ok, nil, false)
		expectEdit(t, fmt.Sprint("ResolveEdits ", v), resolved, resolvedOK, impl.Edit{}, false)
		return
	}
	expectEdits(t, fmt.Sprint("EliminateVariable ", v), eliminated, ok, b.eliminatedOf(l, v), true)
	expectEdit(t, fmt.Sprint("ResolveEdits ", v), resolved, resolvedOK, l[0], true)
}

// acceptsVariables calls the functions with two numbers that are a list of
// variables or not.
func acceptsVariables(t *testing.T, b editTable, l []impl.Edit, vars []int) {
	t.Helper()
	if slices.Equal(vars, []int{0, 1}) {
		checkMaximal(t, b, l, [][]int{vars})
		checkCompletions(t, b.s, l, [][]int{{2, 1}}, [][]int{vars})
		return
	}
	only, ok := impl.EditsOnly(b.s, l, vars)
	expectEdits(t, fmt.Sprint("EditsOnly ", vars), only, ok, nil, false)
	refusesToComplete(t, b.s, l, vars, []int{2, 1})
}

// acceptsEditOfImplied calls the functions with an edit that is good or not.
func acceptsEditOfImplied(t *testing.T, b editTable, e, other impl.Edit) {
	t.Helper()
	if !editIsGood(b.s, e) {
		refusesImplied(t, b.s, []impl.Edit{other, e}, e, 0, nil, []int{0, 0})
		got, ok := impl.ResolveEdits(b.s, e, other, 0)
		expectEdit(t, fmt.Sprint("ResolveEdits ", e, other), got, ok, impl.Edit{}, false)
		got, ok = impl.ResolveEdits(b.s, other, e, 0)
		expectEdit(t, fmt.Sprint("ResolveEdits ", other, e), got, ok, impl.Edit{}, false)
		implied, ok := impl.IsImplied(b.s, []impl.Edit{other}, e)
		expectBool(t, fmt.Sprint("IsImplied ", other, e), implied, ok, false, false)
		return
	}
	checkResolved(t, b.s, e, other)
	checkResolved(t, b.s, other, e)
	checkImplied(t, b, []impl.Edit{other, e})
	checkMaximal(t, b, []impl.Edit{other, e}, [][]int{nil, {0}, {0, 1}})
}

// acceptsValuesToComplete calls the functions with values that are good or not.
func acceptsValuesToComplete(t *testing.T, s []impl.Variable, l []impl.Edit, values []int) {
	t.Helper()
	if recordIsGood(s, person(0, 0, values...)) {
		checkCompletions(t, s, l, [][]int{values}, setsOfVariables(len(s)))
		return
	}
	refusesToComplete(t, s, l, nil, values)
	refusesToComplete(t, s, l, []int{0}, values)
	cover, ok := impl.SmallestCover(s, l, values)
	expectInts(t, fmt.Sprint("SmallestCover ", values), cover, ok, nil, false)
}

// callChapter6 calls every function of chapter 6 with the arguments.
func callChapter6(s []impl.Variable, l []impl.Edit, v int, vars, values []int) {
	for _, e := range l {
		impl.ResolveEdits(s, e, l[0], v)
		impl.ResolveEdits(s, l[0], e, v)
		impl.IsImplied(s, l, e)
	}
	impl.WithoutContained(s, l)
	impl.MaximalEdits(s, l)
	impl.EliminateVariable(s, l, v)
	impl.IsContradictory(s, l)
	impl.CanComplete(s, l, vars, values)
	impl.CompletionOf(s, l, vars, values)
	impl.SmallestCover(s, l, values)
	impl.EditsOnly(s, l, vars)
}

// impliedWorld is the arguments of a call, with elements behind each list.
type impliedWorld struct {
	editWorld
	vars []int
}

func newImpliedWorld() impliedWorld {
	return impliedWorld{editWorld: newEditWorld(), vars: []int{0, 2, 1, -1}}
}

func TestChapter6LeavesItsArguments(t *testing.T) {
	for _, spoil := range []func(w *impliedWorld){
		func(w *impliedWorld) {},
		func(w *impliedWorld) { w.s[1].Name = "zz" },
		func(w *impliedWorld) { w.s[2].Levels = 8 },
		func(w *impliedWorld) { w.s[2].Levels = 9 },
		func(w *impliedWorld) { w.sets[1][1] = 16 },
		func(w *impliedWorld) { w.sets[3][2] = 0 },
		func(w *impliedWorld) { w.edits[2].Sets = w.sets[2][:2] },
		func(w *impliedWorld) { w.edits[0].Sets = w.sets[1][:3] },
		func(w *impliedWorld) { w.with[1] = 4 },
		func(w *impliedWorld) { w.vars[0] = 2 },
		func(w *impliedWorld) { w.vars[1] = 0 },
	} {
		w := newImpliedWorld()
		spoil(&w)
		before := fmt.Sprint(w)
		s, l, values, _ := w.given()
		for v := range 4 {
			callChapter6(s, l, v, w.vars[:v], values)
		}
		if after := fmt.Sprint(w); after != before {
			t.Error("changed", after, before)
		}
	}
}

func TestChapter6DoesNotReadSpareCapacity(t *testing.T) {
	w := newImpliedWorld()
	s, l, values, _ := w.given()
	b := newEditTable(s)
	for n := range 5 {
		checkMaximal(t, b, l[:n], [][]int{w.vars[:0], w.vars[:1], w.vars[:2]})
		checkCompletions(t, s, l[:n], [][]int{values}, [][]int{w.vars[:0], w.vars[:1], w.vars[:2]})
		kept, ok := impl.WithoutContained(s, l[:n])
		expectEdits(t, fmt.Sprint("WithoutContained ", l[:n]), kept, ok, withoutContainedOf(l[:n]), true)
	}
	for i, e := range l {
		checkResolved(t, s, e, l[0])
		checkResolved(t, s, l[0], e)
		shorter := impl.Edit{Sets: w.sets[i][:2]}
		refusesImplied(t, s, []impl.Edit{e, shorter}, shorter, 0, w.vars[:2], values)
	}
	refusesListOfImplied(t, s, w.edits, l[0], 0, w.vars[:2], values)
	refusesToComplete(t, s, l, w.vars[:2], values[:2])
	refusesToComplete(t, s, l, w.vars, values)
}

// listsOfImplied returns what the functions with lists or edits as their results
// return, the sets of each edit by themselves.
func listsOfImplied(s []impl.Variable, l []impl.Edit, vars, values []int) [][]int {
	completion, _ := impl.CompletionOf(s, l, vars, values)
	same, _ := impl.CompletionOf(s, nil, allBut(s), values)
	cover, _ := impl.SmallestCover(s, l, values)
	kept, _ := impl.WithoutContained(s, l)
	one, _ := impl.WithoutContained(s, l[:1])
	maximal, _ := impl.MaximalEdits(s, l)
	only, _ := impl.EditsOnly(s, l, allBut(s))
	lists := append([][]int{completion, same, cover}, setsOfEdits(kept, one, maximal, only)...)
	for v := range s {
		eliminated, _ := impl.EliminateVariable(s, l, v)
		resolved, _ := impl.ResolveEdits(s, l[0], l[0], v)
		lists = append(append(lists, resolved.Sets), setsOfEdits(eliminated)...)
	}
	return lists
}

func setsOfEdits(edits ...[]impl.Edit) [][]int {
	var lists [][]int
	for _, l := range edits {
		for _, e := range l {
			lists = append(lists, e.Sets)
		}
	}
	return lists
}

// expectedOfImplied says what listsOfImplied must return.
func expectedOfImplied(s []impl.Variable, l []impl.Edit, vars, values []int) [][]int {
	b, passing := newEditTable(s), passingOf(s, l)
	cover, _ := coverOf(s, passing, values)
	maximal := b.maximalOf(l, anyEdit)
	lists := [][]int{completionsOf(passing, vars, values)[0], slices.Clone(values), cover}
	lists = append(lists, setsOfEdits(withoutContainedOf(l), l[:1], maximal, maximal)...)
	for v := range s {
		lists = append(append(lists, l[0].Sets), setsOfEdits(b.eliminatedOf(l, v))...)
	}
	for i := range lists {
		lists[i] = slices.Clone(lists[i])
	}
	return lists
}

// TestChapter6ResultsAreNew overwrites the results, one after the other, and
// what their capacity holds behind them, and looks at the others, at the
// arguments and at what the next calls return.
func TestChapter6ResultsAreNew(t *testing.T) {
	w := newImpliedWorld()
	s, l, values, _ := w.given()
	l = slices.Concat(l, []impl.Edit{edit(4, 15, 3)}, l[:2])
	vars := w.vars[1:2]
	before, want := fmt.Sprint(w), expectedOfImplied(s, l, vars, values)
	for range 3 {
		lists := listsOfImplied(s, l, vars, values)
		expectLists(t, "results", lists, want)
		for i := range lists {
			clobber(lists[i], -99)
			expectLists(t, "results behind one that is overwritten", lists[i+1:], want[i+1:])
		}
		if after := fmt.Sprint(w); after != before {
			t.Fatal("a result shares memory with an argument", after, before)
		}
	}
}

// TestChapter6ResultsStay overwrites the arguments after the calls.
func TestChapter6ResultsStay(t *testing.T) {
	w := newImpliedWorld()
	s, l, values, _ := w.given()
	vars := w.vars[1:2]
	lists, want := listsOfImplied(s, l, vars, values), expectedOfImplied(s, l, vars, values)
	for _, sets := range w.sets {
		clobber(sets, -99)
	}
	for _, values := range w.values {
		clobber(values, -99)
	}
	clobber(w.edits, impl.Edit{})
	clobber(w.vars, -99)
	clobber(w.s, impl.Variable{})
	expectLists(t, "results kept", lists, want)
}

// TestChapter6ListsAreNew overwrites lists of edits, not their sets.
func TestChapter6ListsAreNew(t *testing.T) {
	s, l := schemaOf("sex2", "age3"), []impl.Edit{edit(1, 6), edit(2, 4)}
	for range 3 {
		kept, ok := impl.WithoutContained(s, l)
		expectEdits(t, "WithoutContained", kept, ok, l, true)
		maximal, ok := impl.MaximalEdits(s, l)
		expectEdits(t, "MaximalEdits", maximal, ok, []impl.Edit{edit(1, 6), edit(3, 4)}, true)
		only, ok := impl.EditsOnly(s, l, []int{1})
		expectEdits(t, "EditsOnly", only, ok, []impl.Edit{edit(3, 4)}, true)
		eliminated, ok := impl.EliminateVariable(s, l, 0)
		expectEdits(t, "EliminateVariable", eliminated, ok, []impl.Edit{edit(3, 4)}, true)
		for _, edits := range [][]impl.Edit{kept, maximal, only, eliminated} {
			clobber(edits, edit(-99))
		}
	}
}

// TestImpliedByEditsWithOneListOfSets gives edits whose Sets are one list.
func TestImpliedByEditsWithOneListOfSets(t *testing.T) {
	s := schemaOf("age3", "b2")
	e := edit(6, 3)
	l := []impl.Edit{e, e, e}
	checkResolved(t, s, e, e)
	checkMaximal(t, newEditTable(s), l, setsOfVariables(2))
	checkCompletions(t, s, l, listsOfValues(s), setsOfVariables(2))
	kept, ok := impl.WithoutContained(s, l)
	expectEdits(t, "WithoutContained", kept, ok, l[:1], true)
	clobber(kept[0].Sets, -99)
	resolved, ok := impl.ResolveEdits(s, e, e, 1)
	expectEdit(t, "ResolveEdits", resolved, ok, edit(6, 3), true)
	clobber(resolved.Sets, -99)
	if !slices.Equal(e.Sets, []int{6, 3}) {
		t.Error("a result shares memory with an argument", e)
	}
}

// TestFixedVariablesAndValuesAreOneList gives one list as two arguments.
func TestFixedVariablesAndValuesAreOneList(t *testing.T) {
	s, both := schemaOf("age3", "b2"), []int{0, 1}
	l := []impl.Edit{edit(6, 3), edit(1, 2)}
	checkCompletions(t, s, l, [][]int{both}, [][]int{both})
	checkCompletions(t, s, l[:1], [][]int{both}, [][]int{both})
	if !slices.Equal(both, []int{0, 1}) {
		t.Error("changed", both)
	}
}

func TestChapter6KeepsNoState(t *testing.T) {
	s, l := schemaOf("sex2", "age3"), []impl.Edit{edit(1, 6), edit(3, 1), edit(1, 6)}
	b := newEditTable(s)
	for range 20 {
		callChapter6(schemaOf("sex3", "age3"), []impl.Edit{edit(5, 7), edit(4, 1)}, 1, []int{0}, []int{2, 2})
		callChapter6(s, []impl.Edit{edit(4, 7)}, 0, nil, []int{0, 0})
		callChapter6(s, []impl.Edit{edit(3, 7)}, 0, nil, []int{0, 0})
		checkImplied(t, b, l)
		checkMaximal(t, b, l, setsOfVariables(2))
		checkCompletions(t, s, l, listsOfValues(s), setsOfVariables(2))
		checkResolved(t, s, l[0], l[1])
	}
}
