package tests

import (
	"fmt"
	"math/rand"
	"slices"
	"testing"

	"loop.example/g00908/impl"
)

// checkCompletions calls the functions that look for values that pass, with all
// of the given values and sets of fixed variables.
func checkCompletions(t *testing.T, s []impl.Variable, l []impl.Edit, lists, sets [][]int) {
	t.Helper()
	call := fmt.Sprint(s, l)
	passing := passingOf(s, l)
	is, ok := impl.IsContradictory(s, l)
	expectBool(t, "IsContradictory "+call, is, ok, len(passing) == 0, true)
	for _, values := range lists {
		for _, fixed := range sets {
			completions := completionsOf(passing, fixed, values)
			can, ok := impl.CanComplete(s, l, fixed, values)
			expectBool(t, fmt.Sprint("CanComplete ", call, fixed, values), can, ok, len(completions) > 0, true)
			first, ok := impl.CompletionOf(s, l, fixed, values)
			if len(completions) == 0 {
				expectInts(t, fmt.Sprint("CompletionOf ", call, fixed, values), first, ok, nil, false)
			} else {
				expectInts(t, fmt.Sprint("CompletionOf ", call, fixed, values), first, ok, completions[0], true)
			}
		}
		cover, ok := impl.SmallestCover(s, l, values)
		want, wantOK := coverOf(s, passing, values)
		expectInts(t, fmt.Sprint("SmallestCover ", call, values), cover, ok, want, wantOK)
	}
}

// refusesToComplete calls the functions that complete values.
func refusesToComplete(t *testing.T, s []impl.Variable, l []impl.Edit, fixed, values []int) {
	t.Helper()
	call := fmt.Sprintf("%.100s %.100s %.100s %.100s", fmt.Sprint(s), fmt.Sprint(l), fmt.Sprint(fixed), fmt.Sprint(values))
	can, ok := impl.CanComplete(s, l, fixed, values)
	expectBool(t, "CanComplete "+call, can, ok, false, false)
	first, ok := impl.CompletionOf(s, l, fixed, values)
	expectInts(t, "CompletionOf "+call, first, ok, nil, false)
}

// TestCompletionsOfAllFewEdits goes through all short lists of edits.
func TestCompletionsOfAllFewEdits(t *testing.T) {
	for _, c := range []struct {
		s      []impl.Variable
		length int
	}{{schemaOf("b2"), 5}, {schemaOf("c3"), 3}, {schemaOf("b2", "a2"), 3}, {schemaOf("sex2", "age3"), 2}} {
		all, lists, sets := allEdits(c.s), listsOfValues(c.s), setsOfVariables(len(c.s))
		for n := range c.length + 1 {
			for _, places := range allNumbers(n, 0, len(all)-1) {
				var l []impl.Edit
				for _, i := range places {
					l = append(l, all[i])
				}
				checkCompletions(t, c.s, l, lists, sets)
			}
		}
	}
}

// TestCompletionsOfEachSetOfValues has for each set of lists of values the edits
// that just these fail.
func TestCompletionsOfEachSetOfValues(t *testing.T) {
	for _, s := range [][]impl.Variable{schemaOf("b2"), schemaOf("c3"), schemaOf("b2", "a2"), schemaOf("sex2", "age3"), schemaOf("a2", "b2", "c2")} {
		lists, sets := listsOfValues(s), setsOfVariables(len(s))
		for _, failing := range append([]int{0}, setsOf(len(lists))...) {
			var l []impl.Edit
			for _, i := range levelsOfSet(failing) {
				l = append(l, editOfValues(lists[i]))
			}
			checkCompletions(t, s, l, lists, sets)
		}
	}
}

func TestCompletionsOfRandomLists(t *testing.T) {
	r := rand.New(rand.NewSource(71))
	for _, s := range fewCombinations() {
		sets := setsOfVariables(len(s))
		for n := range 41 {
			lists := [][]int{make([]int, len(s)), farRecord(s).Values}
			for range 3 {
				lists = append(lists, randomValues(r, s))
			}
			checkCompletions(t, s, randomEdits(r, s, n), lists, sets)
			checkCompletions(t, s, denseEdits(r, s, n), lists, sets)
		}
	}
}

// denseEdits returns n edits that many values fail: each involves one or two
// variables, without one level of theirs.
func denseEdits(r *rand.Rand, s []impl.Variable, n int) []impl.Edit {
	l := make([]impl.Edit, n)
	for i := range l {
		l[i] = editOfAll(s)
		for range 2 {
			v := r.Intn(len(s))
			l[i].Sets[v] = editOfAll(s).Sets[v] - setOf(r.Intn(s[v].Levels))
		}
	}
	return l
}

func TestIsContradictoryExamples(t *testing.T) {
	s := schemaOf("sex2", "age3")
	for _, c := range []struct {
		l    []impl.Edit
		want bool
	}{
		{nil, false},
		{[]impl.Edit{}, false},
		{[]impl.Edit{edit(1, 6), edit(2, 4)}, false},
		{[]impl.Edit{edit(3, 7)}, true},
		{[]impl.Edit{edit(1, 1), edit(3, 7), edit(1, 1)}, true},
		{[]impl.Edit{edit(1, 7), edit(2, 7)}, true},
		{[]impl.Edit{edit(1, 7), edit(2, 6)}, false},
		{[]impl.Edit{edit(1, 6), edit(2, 7)}, false},
		{[]impl.Edit{edit(1, 7), edit(2, 6), edit(2, 1)}, true},
		{[]impl.Edit{edit(3, 1), edit(3, 2), edit(3, 4)}, true},
		{[]impl.Edit{edit(3, 1), edit(3, 2), edit(1, 4)}, false},
		{[]impl.Edit{edit(1, 1), edit(2, 1), edit(1, 2), edit(2, 2), edit(1, 4), edit(2, 4)}, true},
	} {
		got, ok := impl.IsContradictory(s, c.l)
		expectBool(t, fmt.Sprint("IsContradictory ", c.l), got, ok, c.want, true)
	}
}

// TestOneListOfValuesPasses leaves one list of values over: the first, the last
// and each between them.
func TestOneListOfValuesPasses(t *testing.T) {
	r := rand.New(rand.NewSource(72))
	for _, s := range fewCombinations() {
		for _, values := range listsOfValues(s) {
			l, given := editsBut(s, values), randomValues(r, s)
			is, ok := impl.IsContradictory(s, l)
			expectBool(t, fmt.Sprint("IsContradictory ", s, l), is, ok, false, true)
			first, ok := impl.CompletionOf(s, l, nil, given)
			expectInts(t, fmt.Sprint("CompletionOf ", s, l, given), first, ok, values, true)
			var cover []int
			for v := range s {
				if given[v] != values[v] {
					cover = append(cover, v)
				}
			}
			got, ok := impl.SmallestCover(s, l, given)
			expectInts(t, fmt.Sprint("SmallestCover ", s, l, given), got, ok, cover, true)
			l = append(l, editOfValues(values))
			is, ok = impl.IsContradictory(s, l)
			expectBool(t, fmt.Sprint("IsContradictory ", s, l), is, ok, true, true)
			first, ok = impl.CompletionOf(s, l, nil, given)
			expectInts(t, fmt.Sprint("CompletionOf ", s, l, given), first, ok, nil, false)
			got, ok = impl.SmallestCover(s, l, given)
			expectInts(t, fmt.Sprint("SmallestCover ", s, l, given), got, ok, nil, false)
		}
	}
}

func TestCompletionOfExamples(t *testing.T) {
	s := schemaOf("sex2", "age3", "b2")
	l := []impl.Edit{edit(1, 6, 3), edit(2, 4, 3), edit(1, 1, 1)}
	for _, c := range []struct {
		l             []impl.Edit
		fixed, values []int
		want          []int
		ok            bool
	}{
		{nil, nil, []int{1, 2, 1}, []int{0, 0, 0}, true},
		{nil, []int{}, []int{1, 2, 1}, []int{0, 0, 0}, true},
		{nil, []int{0}, []int{1, 2, 1}, []int{1, 0, 0}, true},
		{nil, []int{1}, []int{1, 2, 1}, []int{0, 2, 0}, true},
		{nil, []int{2}, []int{1, 2, 1}, []int{0, 0, 1}, true},
		{nil, []int{0, 2}, []int{1, 2, 1}, []int{1, 0, 1}, true},
		{nil, []int{0, 1, 2}, []int{1, 2, 1}, []int{1, 2, 1}, true},
		{l, nil, []int{1, 2, 1}, []int{0, 0, 1}, true},
		{l, []int{0}, []int{1, 2, 0}, []int{1, 0, 0}, true},
		{l, []int{0}, []int{0, 2, 0}, []int{0, 0, 1}, true},
		{l, []int{1}, []int{0, 1, 0}, []int{1, 1, 0}, true},
		{l, []int{1}, []int{0, 2, 0}, nil, false},
		{l, []int{1}, []int{1, 0, 0}, []int{0, 0, 1}, true},
		{l, []int{2}, []int{0, 2, 0}, []int{1, 0, 0}, true},
		{l, []int{2}, []int{0, 2, 1}, []int{0, 0, 1}, true},
		{l, []int{0, 2}, []int{0, 1, 0}, nil, false},
		{l, []int{0, 1}, []int{0, 0, 0}, []int{0, 0, 1}, true},
		{l, []int{0, 1}, []int{0, 1, 1}, nil, false},
		{l, []int{0, 1, 2}, []int{0, 0, 0}, nil, false},
		{l, []int{0, 1, 2}, []int{0, 0, 1}, []int{0, 0, 1}, true},
		{[]impl.Edit{edit(3, 7, 3)}, nil, []int{0, 0, 1}, nil, false},
	} {
		got, ok := impl.CompletionOf(s, c.l, c.fixed, c.values)
		expectInts(t, fmt.Sprint("CompletionOf ", c.l, c.fixed, c.values), got, ok, c.want, c.ok)
		can, ok := impl.CanComplete(s, c.l, c.fixed, c.values)
		expectBool(t, fmt.Sprint("CanComplete ", c.l, c.fixed, c.values), can, ok, c.ok, true)
	}
}

func TestCompletionsRefuseVariables(t *testing.T) {
	for _, s := range fewCombinations() {
		for _, fixed := range wrongListsOfVariables(s) {
			for _, l := range [][]impl.Edit{nil, {editOfAll(s)}, {editOfValues(make([]int, len(s)))}} {
				refusesToComplete(t, s, l, fixed, make([]int, len(s)))
				refusesToComplete(t, s, l, fixed, farRecord(s).Values)
			}
		}
	}
}

// TestCompletionsRefuseValues gives wrong values, also where they are not fixed.
func TestCompletionsRefuseValues(t *testing.T) {
	for _, s := range fewCombinations() {
		for _, values := range wrongValues(s) {
			for _, l := range [][]impl.Edit{nil, {editOfAll(s)}, {editOfValues(make([]int, len(s)))}} {
				for _, fixed := range append(setsOfVariables(len(s)), wrongListsOfVariables(s)[0]) {
					refusesToComplete(t, s, l, fixed, values)
				}
				cover, ok := impl.SmallestCover(s, l, values)
				expectInts(t, fmt.Sprint("SmallestCover ", s, l, values), cover, ok, nil, false)
			}
		}
	}
}

func TestSmallestCoverExamples(t *testing.T) {
	s := schemaOf("sex2", "age3", "b2")
	l := []impl.Edit{edit(1, 6, 3), edit(2, 4, 3), edit(1, 1, 1)}
	for _, c := range []struct {
		l            []impl.Edit
		values, want []int
		ok           bool
	}{
		{nil, []int{1, 2, 1}, nil, true},
		{l, []int{0, 0, 1}, nil, true},
		{l, []int{1, 1, 0}, nil, true},
		{l, []int{0, 0, 0}, []int{0}, true},
		{l[2:], []int{0, 0, 0}, []int{0}, true},
		{l[:1], []int{0, 2, 0}, []int{0}, true},
		{l, []int{0, 1, 0}, []int{0}, true},
		{l, []int{0, 2, 1}, []int{1}, true},
		{l, []int{0, 2, 0}, []int{0, 1}, true},
		{l, []int{1, 2, 0}, []int{1}, true},
		{l[:2], []int{0, 2, 0}, []int{1}, true},
		{[]impl.Edit{edit(3, 7, 1)}, []int{1, 2, 0}, []int{2}, true},
		{[]impl.Edit{edit(3, 7, 1), edit(2, 7, 3)}, []int{1, 2, 0}, []int{0, 2}, true},
		{[]impl.Edit{edit(3, 7, 1), edit(3, 4, 3)}, []int{1, 2, 0}, []int{1, 2}, true},
		{[]impl.Edit{edit(3, 7, 1), edit(3, 4, 3), edit(2, 7, 3)}, []int{1, 2, 0}, []int{0, 1, 2}, true},
		{[]impl.Edit{edit(3, 6, 1), edit(2, 6, 3), edit(2, 7, 1)}, []int{1, 2, 0}, []int{0, 1}, true},
		{[]impl.Edit{edit(3, 7, 3)}, []int{1, 2, 0}, nil, false},
		{[]impl.Edit{edit(1, 7, 3), edit(2, 7, 3)}, []int{0, 0, 0}, nil, false},
	} {
		got, ok := impl.SmallestCover(s, c.l, c.values)
		expectInts(t, fmt.Sprint("SmallestCover ", c.l, c.values), got, ok, c.want, c.ok)
	}
}

// TestSmallestCoverOfEachSize lets pass just the values that differ from zeros
// in one of the given sets of variables, and so has covers of each set of
// variables and of several of the same size.
func TestSmallestCoverOfEachSize(t *testing.T) {
	s := schemaOf("d2", "a2", "c2", "b2", "e2")
	sets := setsOfVariables(len(s))
	r := rand.New(rand.NewSource(73))
	zero := make([]int, len(s))
	for i, least := range sets {
		for range 20 {
			passing := map[string]bool{}
			add := func(set []int) {
				values := slices.Clone(zero)
				for _, v := range set {
					values[v] = 1
				}
				passing[fmt.Sprint(values)] = true
			}
			add(least)
			for range 10 {
				add(sets[i+r.Intn(len(sets)-i)])
			}
			var l []impl.Edit
			for _, values := range listsOfValues(s) {
				if !passing[fmt.Sprint(values)] {
					l = append(l, editOfValues(values))
				}
			}
			got, ok := impl.SmallestCover(s, l, zero)
			expectInts(t, fmt.Sprint("SmallestCover ", s, l), got, ok, least, true)
		}
	}
}

// TestCoversAreCompleted says with the functions alone what a cover is: it can
// be changed so that the values pass, no smaller set can, and each of
// MaximalEdits that the values fail involves one of its variables.
func TestCoversAreCompleted(t *testing.T) {
	r := rand.New(rand.NewSource(74))
	for _, s := range fewCombinations() {
		for range 30 {
			l, values := randomEdits(r, s, r.Intn(20)), randomValues(r, s)
			cover, ok := impl.SmallestCover(s, l, values)
			if !ok {
				is, ok := impl.IsContradictory(s, l)
				expectBool(t, fmt.Sprint("IsContradictory ", s, l), is, ok, true, true)
				continue
			}
			for _, set := range setsOfVariables(len(s)) {
				if len(set) < len(cover) {
					can, ok := impl.CanComplete(s, l, allBut(s, set...), values)
					expectBool(t, fmt.Sprint("CanComplete ", s, l, set, values), can, ok, false, true)
				}
			}
			completion, ok := impl.CompletionOf(s, l, allBut(s, cover...), values)
			failed, _ := impl.FailedEdits(s, l, completion)
			if !ok || len(failed) > 0 {
				t.Error("CompletionOf", s, l, cover, values, completion, failed)
			}
			maximal, _ := impl.MaximalEdits(s, l)
			for _, e := range maximal {
				fails, _ := impl.FailsEdit(s, e, values)
				involved, _ := impl.InvolvedIn(s, e)
				if fails && !slices.ContainsFunc(involved, func(v int) bool { return slices.Contains(cover, v) }) {
					t.Error("SmallestCover", s, l, values, cover, e)
				}
			}
		}
	}
}
