package tests

import (
	"fmt"
	"math/rand"
	"slices"
	"testing"

	"loop.example/g00908/impl"
)

// checkList calls the functions that need a list of edits, with all of the
// given values and with data.
func checkList(t *testing.T, s []impl.Variable, l []impl.Edit, lists [][]int, data []impl.Record) {
	t.Helper()
	call := fmt.Sprint(s, l)
	for _, values := range lists {
		failed, ok := impl.FailedEdits(s, l, values)
		expectInts(t, fmt.Sprint("FailedEdits ", call, values), failed, ok, failedOf(l, values), true)
	}
	passing := passingOf(s, l)
	n, ok := impl.CountPassing(s, l)
	expectInt(t, "CountPassing "+call, n, ok, len(passing), true)
	first, ok := impl.FirstPassing(s, l)
	if len(passing) == 0 {
		expectInts(t, "FirstPassing "+call, first, ok, nil, false)
	} else {
		expectInts(t, "FirstPassing "+call, first, ok, passing[0], true)
	}
	counts, ok := impl.FailureCounts(s, l, data)
	expectInts(t, fmt.Sprint("FailureCounts ", call, data), counts, ok, failureCountsOf(l, data), true)
}

// TestAllFewEdits goes through all short lists of edits.
func TestAllFewEdits(t *testing.T) {
	for _, c := range []struct {
		s      []impl.Variable
		length int
	}{{schemaOf("b2"), 5}, {schemaOf("c3"), 3}, {schemaOf("b2", "a2"), 3}, {schemaOf("sex2", "age3"), 2}} {
		all, lists := allEdits(c.s), listsOfValues(c.s)
		data := []impl.Record{farRecord(c.s), {Values: lists[1]}, {Values: lists[0]}, {Area: 1, House: 2, Values: lists[1]}}
		for n := range c.length + 1 {
			for _, places := range allNumbers(n, 0, len(all)-1) {
				var l []impl.Edit
				for _, i := range places {
					l = append(l, all[i])
				}
				checkList(t, c.s, l, lists, data)
			}
		}
	}
}

func TestRandomListsOfEdits(t *testing.T) {
	r := rand.New(rand.NewSource(55))
	for _, s := range smallSchemas() {
		for n := range 41 {
			lists := [][]int{make([]int, len(s)), farRecord(s).Values}
			for range 5 {
				lists = append(lists, randomValues(r, s))
			}
			checkList(t, s, randomEdits(r, s, n), lists, randomData(r, s, r.Intn(41)))
		}
	}
}

// TestListsOfLargestSchema calls the functions that take a schema with any
// number of lists of values.
func TestListsOfLargestSchema(t *testing.T) {
	s, r := largestSchema(), rand.New(rand.NewSource(56))
	for n := range 41 {
		l, data := randomEdits(r, s, n), randomData(r, s, 40)
		for _, record := range data {
			failed, ok := impl.FailedEdits(s, l, record.Values)
			expectInts(t, fmt.Sprint("FailedEdits ", l, record), failed, ok, failedOf(l, record.Values), true)
		}
		counts, ok := impl.FailureCounts(s, l, data)
		expectInts(t, fmt.Sprint("FailureCounts ", l, data), counts, ok, failureCountsOf(l, data), true)
		refusesToList(t, s, l)
	}
}

// refusesToList calls the functions that go through all lists of values.
func refusesToList(t *testing.T, s []impl.Variable, l []impl.Edit) {
	t.Helper()
	n, ok := impl.CountPassing(s, l)
	expectInt(t, fmt.Sprint("CountPassing ", s, l), n, ok, 0, false)
	first, ok := impl.FirstPassing(s, l)
	expectInts(t, fmt.Sprint("FirstPassing ", s, l), first, ok, nil, false)
}

// TestFailingValuesAreCounted says promise 5 with the functions alone.
func TestFailingValuesAreCounted(t *testing.T) {
	r := rand.New(rand.NewSource(57))
	for _, s := range smallSchemas() {
		total, _ := impl.CombinationCount(s)
		for range 5 {
			e, count := randomEdit(r, s), 0
			for i := range total {
				values, _ := impl.CombinationAt(s, i)
				if fails, _ := impl.FailsEdit(s, e, values); fails {
					count++
				}
			}
			failing, ok := impl.CountFailing(s, e)
			expectInt(t, fmt.Sprint("CountFailing ", s, e), failing, ok, count, true)
			passing, ok := impl.CountPassing(s, []impl.Edit{e})
			expectInt(t, fmt.Sprint("CountPassing ", s, e), passing, ok, total-count, true)
			passing, ok = impl.CountPassing(s, []impl.Edit{e, e})
			expectInt(t, fmt.Sprint("CountPassing of an edit twice ", s, e), passing, ok, total-count, true)
		}
	}
}

func TestFailedEditsExamples(t *testing.T) {
	s := schemaOf("sex2", "age3")
	l := []impl.Edit{edit(1, 6), edit(3, 7), edit(2, 7), edit(1, 6), edit(3, 4), edit(2, 1)}
	for _, c := range []struct{ values, want []int }{
		{[]int{0, 0}, []int{1}},
		{[]int{0, 1}, []int{0, 1, 3}},
		{[]int{0, 2}, []int{0, 1, 3, 4}},
		{[]int{1, 0}, []int{1, 2, 5}},
		{[]int{1, 1}, []int{1, 2}},
		{[]int{1, 2}, []int{1, 2, 4}},
	} {
		failed, ok := impl.FailedEdits(s, l, c.values)
		expectInts(t, fmt.Sprint("FailedEdits ", c.values), failed, ok, c.want, true)
		failed, ok = impl.FailedEdits(s, nil, c.values)
		expectInts(t, fmt.Sprint("FailedEdits of none ", c.values), failed, ok, nil, true)
	}
	failed, ok := impl.FailedEdits(s, l[:1], []int{0, 0})
	expectInts(t, "FailedEdits of values that pass", failed, ok, nil, true)
}

func TestNoEdits(t *testing.T) {
	for _, s := range smallSchemas() {
		total, _ := impl.CombinationCount(s)
		for _, l := range [][]impl.Edit{nil, {}} {
			n, ok := impl.CountPassing(s, l)
			expectInt(t, fmt.Sprint("CountPassing ", s), n, ok, total, true)
			first, ok := impl.FirstPassing(s, l)
			expectInts(t, fmt.Sprint("FirstPassing ", s), first, ok, make([]int, len(s)), true)
			failed, ok := impl.FailedEdits(s, l, make([]int, len(s)))
			expectInts(t, fmt.Sprint("FailedEdits ", s), failed, ok, nil, true)
			counts, ok := impl.FailureCounts(s, l, []impl.Record{farRecord(s)})
			expectInts(t, fmt.Sprint("FailureCounts ", s), counts, ok, nil, true)
		}
	}
}

// TestFirstPassingFindsEachList leaves one list of values over: the first, the
// last and each between them.
func TestFirstPassingFindsEachList(t *testing.T) {
	for _, s := range smallSchemas() {
		for _, values := range listsOfValues(s) {
			l := editsBut(s, values)
			n, ok := impl.CountPassing(s, l)
			expectInt(t, fmt.Sprint("CountPassing ", s, l), n, ok, 1, true)
			first, ok := impl.FirstPassing(s, l)
			expectInts(t, fmt.Sprint("FirstPassing ", s, l), first, ok, values, true)
			l = append(l, editOfValues(values))
			n, ok = impl.CountPassing(s, l)
			expectInt(t, fmt.Sprint("CountPassing ", s, l), n, ok, 0, true)
			first, ok = impl.FirstPassing(s, l)
			expectInts(t, fmt.Sprint("FirstPassing ", s, l), first, ok, nil, false)
		}
	}
}

func TestNoValuesPass(t *testing.T) {
	for _, s := range smallSchemas() {
		for n := 1; n <= 40; n++ {
			l := slices.Repeat([]impl.Edit{editOfValues(farRecord(s).Values)}, n)
			l[n/2] = editOfAll(s)
			passing, ok := impl.CountPassing(s, l)
			expectInt(t, fmt.Sprint("CountPassing ", s, l), passing, ok, 0, true)
			first, ok := impl.FirstPassing(s, l)
			expectInts(t, fmt.Sprint("FirstPassing ", s, l), first, ok, nil, false)
		}
	}
}

// TestFirstPassingIsFirst has several lists of values that pass.
func TestFirstPassingIsFirst(t *testing.T) {
	s := schemaOf("sex2", "age3", "b2")
	for _, c := range []struct {
		l    []impl.Edit
		want []int
	}{
		{[]impl.Edit{edit(2, 7, 3)}, []int{0, 0, 0}},
		{[]impl.Edit{edit(1, 1, 1)}, []int{0, 0, 1}},
		{[]impl.Edit{edit(3, 7, 1)}, []int{0, 0, 1}},
		{[]impl.Edit{edit(1, 1, 3)}, []int{0, 1, 0}},
		{[]impl.Edit{edit(3, 3, 3)}, []int{0, 2, 0}},
		{[]impl.Edit{edit(1, 7, 3)}, []int{1, 0, 0}},
		{[]impl.Edit{edit(1, 7, 3), edit(2, 1, 3), edit(2, 2, 1)}, []int{1, 1, 1}},
		{[]impl.Edit{edit(2, 2, 1), edit(2, 1, 3), edit(1, 7, 3)}, []int{1, 1, 1}},
		{[]impl.Edit{edit(1, 5, 3), edit(3, 2, 1)}, []int{0, 1, 1}},
	} {
		first, ok := impl.FirstPassing(s, c.l)
		expectInts(t, fmt.Sprint("FirstPassing ", c.l), first, ok, c.want, true)
	}
}

// schemasAbout returns two schemas for each way to write a number in low..high
// as a product of so many levels: one with levels that do not fall, and one with
// the levels in another order.
func schemasAbout(low, high int, lengths ...int) [][]impl.Variable {
	var schemas [][]impl.Variable
	for _, n := range lengths {
		for _, levels := range allNumbers(n, 2, 8) {
			product := 1
			for _, n := range levels {
				product *= n
			}
			if product < low || product > high || !slices.IsSorted(levels) {
				continue
			}
			var up, mixed []impl.Variable
			for i, n := range levels {
				up = append(up, impl.Variable{Name: string(rune('a' + i)), Levels: n})
				mixed = slices.Insert(mixed, i/2, up[i])
			}
			schemas = append(schemas, up, mixed)
		}
	}
	return schemas
}

// TestCountPassingLimit has schemas with exactly 20000 lists of values, with a
// few less and with a few more.
func TestCountPassingLimit(t *testing.T) {
	met := map[int]bool{}
	for _, s := range schemasAbout(19000, 21000, 5, 6) {
		total, _ := impl.CombinationCount(s)
		met[total] = true
		zero, last := make([]int, len(s)), farRecord(s).Values
		second := append(zero[1:len(zero):len(zero)], 1)
		for _, c := range []struct {
			l     []impl.Edit
			n     int
			first []int
		}{
			{nil, total, zero},
			{[]impl.Edit{editOfValues(zero)}, total - 1, second},
			{editsBut(s, last), 1, last},
			{[]impl.Edit{editOfAll(s)}, 0, nil},
		} {
			if total > 20000 {
				refusesToList(t, s, c.l)
				continue
			}
			n, ok := impl.CountPassing(s, c.l)
			expectInt(t, fmt.Sprint("CountPassing ", s, c.l), n, ok, c.n, true)
			first, ok := impl.FirstPassing(s, c.l)
			expectInts(t, fmt.Sprint("FirstPassing ", s, c.l), first, ok, c.first, c.n > 0)
		}
	}
	if !met[20000] || !met[19600] || !met[20160] {
		t.Error("numbers of lists of values", met)
	}
}

// TestMostEdits has lists of MaxEdits edits and more.
func TestMostEdits(t *testing.T) {
	for _, s := range append(smallSchemas(), largestSchema()) {
		e := editOfValues(make([]int, len(s)))
		for _, n := range []int{39, 40, 41, 42, 80, 1000} {
			l, data := slices.Repeat([]impl.Edit{e}, n), []impl.Record{{Values: make([]int, len(s))}, farRecord(s)}
			if n > 40 {
				refusesList(t, s, l, make([]int, len(s)), data)
				continue
			}
			failed, ok := impl.FailedEdits(s, l, make([]int, len(s)))
			if len(failed) != n || failed[0] != 0 || failed[n-1] != n-1 || !ok {
				t.Error("FailedEdits", s, n, failed, ok)
			}
			counts, ok := impl.FailureCounts(s, l, data)
			expectInts(t, fmt.Sprint("FailureCounts ", s, n), counts, ok, slices.Repeat([]int{1}, n), true)
			if total, _ := impl.CombinationCount(s); total <= 20000 {
				passing, ok := impl.CountPassing(s, l)
				expectInt(t, fmt.Sprint("CountPassing ", s, n), passing, ok, total-1, true)
			}
		}
	}
}

// TestWrongListsAreRefused gives wrong lists of edits to each function.
func TestWrongListsAreRefused(t *testing.T) {
	for _, s := range smallSchemas() {
		for _, l := range wrongLists(s) {
			refusesList(t, s, l, make([]int, len(s)), []impl.Record{farRecord(s)})
			refusesList(t, s, l, make([]int, len(s)), nil)
		}
	}
}

// TestListsLookAtEachEdit places a wrong edit everywhere.
func TestListsLookAtEachEdit(t *testing.T) {
	s := schemaOf("sex2", "age3")
	for n := 1; n <= 40; n++ {
		for place := range n {
			for _, bad := range []impl.Edit{edit(1, 8), edit(4, 1), edit(0, 7), edit(3, 0), edit(-1, 7), edit(1), edit(1, 1, 1)} {
				l := slices.Repeat([]impl.Edit{edit(3, 7)}, n)
				l[place] = bad
				refusesList(t, s, l, []int{1, 2}, []impl.Record{person(3, 12, 1, 2)})
			}
		}
	}
}

// refusesList calls the functions with a list or with a schema that is not
// valid.
func refusesList(t *testing.T, s []impl.Variable, l []impl.Edit, values []int, data []impl.Record) {
	t.Helper()
	failed, ok := impl.FailedEdits(s, l, values)
	expectInts(t, fmt.Sprint("FailedEdits ", s, l, values), failed, ok, nil, false)
	refusesToList(t, s, l)
	counts, ok := impl.FailureCounts(s, l, data)
	expectInts(t, fmt.Sprint("FailureCounts ", s, l, data), counts, ok, nil, false)
}

func TestFailureCountsExamples(t *testing.T) {
	s := schemaOf("sex2", "age3")
	l := []impl.Edit{edit(1, 6), edit(3, 7), edit(2, 1), edit(1, 6), edit(2, 4)}
	for _, c := range []struct {
		data []impl.Record
		want []int
	}{
		{nil, []int{0, 0, 0, 0, 0}},
		{[]impl.Record{}, []int{0, 0, 0, 0, 0}},
		{[]impl.Record{person(3, 12, 0, 2)}, []int{1, 1, 0, 1, 0}},
		{[]impl.Record{person(3, 12, 0, 2), person(3, 12, 0, 2), person(3, 12, 0, 2)}, []int{3, 3, 0, 3, 0}},
		{[]impl.Record{person(3, 12, 0, 2), person(0, 0, 1, 0), person(29, 999, 0, 1), person(0, 0, 0, 0)}, []int{2, 4, 1, 2, 0}},
		{slices.Repeat([]impl.Record{person(29, 999, 1, 0)}, 40), []int{0, 40, 40, 0, 0}},
	} {
		counts, ok := impl.FailureCounts(s, l, c.data)
		expectInts(t, fmt.Sprint("FailureCounts ", c.data), counts, ok, c.want, true)
	}
}

// TestFailureCountsCountEqualRecords has up to MaxRecords equal records.
func TestFailureCountsCountEqualRecords(t *testing.T) {
	for _, s := range append(smallSchemas(), largestSchema()) {
		far := farRecord(s)
		l := []impl.Edit{editOfValues(far.Values), editOfValues(make([]int, len(s))), editOfAll(s)}
		for n := range 41 {
			counts, ok := impl.FailureCounts(s, l, slices.Repeat([]impl.Record{far}, n))
			expectInts(t, fmt.Sprint("FailureCounts ", s, n), counts, ok, []int{n, 0, n}, true)
		}
	}
}

func TestFailureCountsRefusesData(t *testing.T) {
	for _, s := range smallSchemas() {
		for _, data := range wrongData(s) {
			for _, l := range [][]impl.Edit{nil, {editOfAll(s)}, slices.Repeat([]impl.Edit{editOfValues(make([]int, len(s)))}, 40)} {
				counts, ok := impl.FailureCounts(s, l, data)
				expectInts(t, fmt.Sprint("FailureCounts ", s, l, data), counts, ok, nil, false)
			}
		}
	}
}
