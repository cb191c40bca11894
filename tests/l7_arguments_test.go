package tests

import (
	"fmt"
	"slices"
	"testing"

	"loop.example/g00908/impl"
)

// TestChapter7RefusesInvalidSchemas gives edits, weights, values and data that
// have as many elements as the schema has variables, and others.
func TestChapter7RefusesInvalidSchemas(t *testing.T) {
	for _, s := range invalidSchemas() {
		for _, e := range []impl.Edit{{}, {Sets: slices.Repeat([]int{1}, len(s))}, edit(1), edit(1, 1), edit(extremeInts()...)} {
			for _, values := range [][]int{nil, make([]int, len(s)), {0}} {
				refusesChapter7(t, s, []impl.Edit{e}, ones(s), nil, values)
				refusesChapter7(t, s, nil, ones(s), []int{0}, values)
				refusesChapter7(t, s, nil, values, values, values)
			}
		}
	}
}

// refusesChapter7 calls all functions with a schema that they do not take.
func refusesChapter7(t *testing.T, s []impl.Variable, l []impl.Edit, weights, vars, values []int) {
	t.Helper()
	cost, ok := impl.ChangeCost(s, weights, values, values)
	expectInt(t, fmt.Sprintf("ChangeCost %.100s %.100s", fmt.Sprint(s), fmt.Sprint(weights)), cost, ok, 0, false)
	refusesChange(t, s, l, weights, values)
	refusesCover(t, s, l, vars, values)
	refusesDonors(t, s, l, weights, []impl.Record{{Values: values}}, values)
	refusesDonors(t, s, l, weights, nil, values)
}

// TestChapter7RefusesLargeSchemas has schemas that chapter 5 takes.
func TestChapter7RefusesLargeSchemas(t *testing.T) {
	for _, s := range append(smallSchemas(), largestSchema()) {
		if n, _ := impl.CombinationCount(s); n <= 100 {
			continue
		}
		zero := make([]int, len(s))
		for _, e := range []impl.Edit{editOfAll(s), editOfValues(zero)} {
			for _, l := range [][]impl.Edit{nil, {e}, slices.Repeat([]impl.Edit{e}, 40), editsBut(s, zero)} {
				refusesChange(t, s, l, ones(s), zero)
				refusesCover(t, s, l, allBut(s), farRecord(s).Values)
				refusesDonors(t, s, l, ones(s), []impl.Record{farRecord(s)}, zero)
				refusesDonors(t, s, l, ones(s), nil, zero)
			}
		}
	}
}

// TestChapter7AcceptsAllNumbers fails also by the panic of a call.
func TestChapter7AcceptsAllNumbers(t *testing.T) {
	s := schemaOf("age3", "b2")
	b, l := newEditTable(s), []impl.Edit{edit(6, 3), edit(1, 1)}
	numbers := append(extremeInts(), 3, 4, 7, 8, 99, 100, 101, 102, 1<<32, 1<<32+1, 1<<62, -1<<62)
	for _, x := range numbers {
		for _, y := range numbers {
			acceptsWeights(t, b, l, []int{x, y})
			acceptsValuesToMend(t, b, l, []int{x, y})
			acceptsCover(t, b, l, []int{x, y})
			callChapter7([]impl.Variable{{Name: "a", Levels: x}, {Name: "b", Levels: y}}, []impl.Edit{edit(x, y)}, []int{y, x}, []int{y}, []int{x, y}, []impl.Record{person(x, y, x, y)})
			callChapter7(s, []impl.Edit{edit(7, 3), edit(x, y)}, []int{1, 1}, []int{x, y}, []int{0, 0}, []impl.Record{person(x, y, 2, 1)})
		}
	}
}

// acceptsWeights calls the functions with weights that are good or not.
func acceptsWeights(t *testing.T, b editTable, l []impl.Edit, weights []int) {
	t.Helper()
	data := []impl.Record{farRecord(b.s), person(0, 0, 0, 1)}
	cost, ok := impl.ChangeCost(b.s, weights, []int{2, 1}, []int{0, 1})
	if !weightsAreGood(b.s, weights) {
		expectInt(t, fmt.Sprint("ChangeCost ", weights), cost, ok, 0, false)
		refusesChange(t, b.s, l, weights, []int{2, 1})
		refusesWeighted(t, b.s, l, weights, data, []int{2, 1})
		return
	}
	expectInt(t, fmt.Sprint("ChangeCost ", weights), cost, ok, weights[0], true)
	p := newRepair(b, l, weights)
	checkChanges(t, p, [][]int{{2, 1}, {0, 0}}, nil)
	checkDonors(t, p, data, [][]int{{2, 1}})
}

// acceptsValuesToMend calls the functions with values that are good or not.
func acceptsValuesToMend(t *testing.T, b editTable, l []impl.Edit, values []int) {
	t.Helper()
	r := person(3, 12, values...)
	if recordIsGood(b.s, r) {
		p := newRepair(b, l, []int{2, 3})
		checkChanges(t, p, [][]int{values, {0, 1}}, setsOfVariables(2))
		checkDonors(t, p, []impl.Record{r}, [][]int{values})
		return
	}
	refusesChange(t, b.s, l, []int{2, 3}, values)
	refusesCover(t, b.s, l, []int{0}, values)
	is, ok := impl.IsMend(b.s, l, []int{0, 1}, []int{2, 1}, values)
	expectBool(t, fmt.Sprint("IsMend ", values), is, ok, false, true)
	refusesDonors(t, b.s, l, []int{2, 3}, []impl.Record{r}, values)
	cost, ok := impl.ChangeCost(b.s, []int{2, 3}, values, []int{0, 0})
	expectInt(t, fmt.Sprint("ChangeCost ", values), cost, ok, 0, false)
}

// acceptsCover calls the functions with two numbers that are a set of variables
// or not.
func acceptsCover(t *testing.T, b editTable, l []impl.Edit, vars []int) {
	t.Helper()
	if slices.Equal(vars, []int{0, 1}) {
		checkChanges(t, newRepair(b, l, ones(b.s)), [][]int{{2, 1}, {0, 0}}, [][]int{vars})
		return
	}
	refusesCover(t, b.s, l, vars, []int{2, 1})
	refusesCover(t, b.s, nil, vars, []int{0, 0})
}

// callChapter7 calls every function of chapter 7 with the arguments.
func callChapter7(s []impl.Variable, l []impl.Edit, weights, vars, values []int, data []impl.Record) {
	impl.ChangeCost(s, weights, values, values)
	impl.CheapestChange(s, l, weights, values)
	impl.MendValues(s, l, weights, values)
	impl.IsCover(s, l, values, vars)
	impl.IsMend(s, l, vars, values, values)
	impl.PackingBound(s, l, weights, values)
	impl.FailingRecords(s, l, data)
	impl.NearestDonor(s, l, weights, data, values)
	impl.DonorMend(s, l, weights, values, values)
	impl.MendData(s, l, weights, data)
	for _, r := range data {
		impl.ChangeCost(s, weights, values, r.Values)
		impl.IsMend(s, l, vars, values, r.Values)
		impl.DonorMend(s, l, weights, values, r.Values)
	}
}

// mendingWorld is the arguments of a call, with elements behind each list.
type mendingWorld struct {
	impliedWorld
	weights []int
}

func newMendingWorld() mendingWorld {
	return mendingWorld{impliedWorld: newImpliedWorld(), weights: []int{3, 100, 1, 7}}
}

func TestChapter7LeavesItsArguments(t *testing.T) {
	for _, spoil := range []func(w *mendingWorld){
		func(w *mendingWorld) {},
		func(w *mendingWorld) { w.s[1].Name = "zz" },
		func(w *mendingWorld) { w.s[2].Levels = 9 },
		func(w *mendingWorld) { w.s[0].Levels, w.s[1].Levels = 8, 8 },
		func(w *mendingWorld) { w.sets[1][1] = 16 },
		func(w *mendingWorld) { w.sets[1][0], w.sets[1][1], w.sets[1][2] = 7, 15, 3 },
		func(w *mendingWorld) { w.edits[2].Sets = w.sets[2][:2] },
		func(w *mendingWorld) { w.weights[1] = 101 },
		func(w *mendingWorld) { w.weights[2] = 0 },
		func(w *mendingWorld) { w.with[1] = 4 },
		func(w *mendingWorld) { w.vars[0] = 2 },
		func(w *mendingWorld) { w.l[2].Area = 30 },
		func(w *mendingWorld) { w.values[3][0] = 3 },
	} {
		w := newMendingWorld()
		spoil(&w)
		before := fmt.Sprint(w)
		s, l, values, data := w.given()
		for n := range 4 {
			callChapter7(s, l, w.weights[:3], w.vars[:n], values, data)
			callChapter7(s, l, w.weights[:n], w.vars[:n], values, data[:n])
		}
		if after := fmt.Sprint(w); after != before {
			t.Error("changed", after, before)
		}
	}
}

func TestChapter7DoesNotReadSpareCapacity(t *testing.T) {
	w := newMendingWorld()
	s, l, values, data := w.given()
	weights := w.weights[:3]
	b := newEditTable(s)
	for n := range 5 {
		p := newRepair(b, l[:n], weights)
		checkChanges(t, p, [][]int{values, w.values[1][:3]}, [][]int{w.vars[:0], w.vars[:1], w.vars[:2]})
		checkDonors(t, p, data[:n], [][]int{values})
		checkMend(t, p, w.vars[:2], values, [][]int{values[:0], values[:2], values, w.with})
	}
	refusesChapter7(t, w.s[:1], l, weights, w.vars[:2], values)
	refusesChange(t, s, w.edits, weights, values)
	refusesChange(t, s, l, weights[:2], values)
	refusesChange(t, s, l, w.weights, values)
	refusesChange(t, s, l, weights, values[:2])
	refusesChange(t, s, l, weights, w.with)
	refusesCover(t, s, l, w.vars[:3], values)
	refusesCover(t, s, l, w.vars, values)
	refusesWeighted(t, s, l, weights[:2], data, values)
	refusesDonors(t, s, l, weights, w.l, values[:2])
}

// mendingResults are the results of chapter 7 that have slices.
type mendingResults struct {
	lists [][]int
	data  []impl.Record
}

// resultsOfMending returns what the functions with lists as their results
// return, the costs of data and the Values of each record by themselves.
func resultsOfMending(s []impl.Variable, l []impl.Edit, weights, values []int, data []impl.Record) mendingResults {
	var lists [][]int
	add := func(list []int) { lists = append(lists, list) }
	for _, edits := range [][]impl.Edit{l, nil} {
		vars, _, _ := impl.CheapestChange(s, edits, weights, values)
		add(vars)
		mended, _ := impl.MendValues(s, edits, weights, values)
		add(mended)
		_, packed, _ := impl.PackingBound(s, edits, weights, values)
		add(packed)
		failing, _ := impl.FailingRecords(s, edits, data)
		add(failing)
		for _, donor := range data {
			replaced, _, _ := impl.DonorMend(s, edits, weights, values, donor.Values)
			add(replaced)
		}
		same, _, _ := impl.DonorMend(s, edits, weights, values, values)
		add(same)
	}
	mended, costs, _ := impl.MendData(s, l, weights, data)
	add(costs)
	for _, r := range mended {
		add(r.Values)
	}
	return mendingResults{lists: lists, data: mended}
}

// expectedOfMending says what resultsOfMending must return.
func expectedOfMending(s []impl.Variable, l []impl.Edit, weights, values []int, data []impl.Record) mendingResults {
	b := newEditTable(s)
	var lists [][]int
	for _, edits := range [][]impl.Edit{l, nil} {
		p := newRepair(b, edits, weights)
		vars, _, _ := p.changeOf(values)
		mended, _ := p.mendedOf(values)
		_, packed, _ := p.packingOf(values)
		lists = append(lists, vars, mended, packed, p.failingIn(data))
		for _, donor := range data {
			replaced, _, _ := p.donorMendOf(values, donor.Values)
			lists = append(lists, replaced)
		}
		same, _, _ := p.donorMendOf(values, values)
		lists = append(lists, same)
	}
	mended, costs, _ := newRepair(b, l, weights).mendedDataOf(data)
	lists = append(lists, costs)
	for _, r := range mended {
		lists = append(lists, r.Values)
	}
	for i := range lists {
		lists[i] = slices.Clone(lists[i])
	}
	return mendingResults{lists: lists, data: copyData(mended)}
}

// TestChapter7ResultsAreNew overwrites the results, one after the other, and
// what their capacity holds behind them, and looks at the others, at the
// arguments and at what the next calls return.
func TestChapter7ResultsAreNew(t *testing.T) {
	w := newMendingWorld()
	s, l, values, data := w.given()
	weights := w.weights[:3]
	for n := range len(l) + 1 {
		before, want := fmt.Sprint(w), expectedOfMending(s, l[:n], weights, values, data)
		for range 3 {
			got := resultsOfMending(s, l[:n], weights, values, data)
			expectLists(t, "results", got.lists, want.lists)
			expectData(t, "MendData", got.data, true, want.data, true)
			for i := range got.lists {
				clobber(got.lists[i], -99)
				expectLists(t, "results behind one that is overwritten", got.lists[i+1:], want.lists[i+1:])
			}
			clobber(got.data, impl.Record{Area: -99})
			if after := fmt.Sprint(w); after != before {
				t.Fatal("a result shares memory with an argument", after, before)
			}
		}
	}
}

// TestChapter7ResultsStay overwrites the arguments after the calls.
func TestChapter7ResultsStay(t *testing.T) {
	w := newMendingWorld()
	s, l, values, data := w.given()
	l = l[:2]
	got, want := resultsOfMending(s, l, w.weights[:3], values, data), expectedOfMending(s, l, w.weights[:3], values, data)
	for _, sets := range w.sets {
		clobber(sets, -99)
	}
	for _, values := range w.values {
		clobber(values, -99)
	}
	clobber(w.edits, impl.Edit{})
	clobber(w.l, impl.Record{Area: -99})
	clobber(w.weights, -99)
	clobber(w.with, -99)
	clobber(w.vars, -99)
	clobber(w.s, impl.Variable{})
	expectLists(t, "results kept", got.lists, want.lists)
	expectData(t, "MendData kept", got.data, true, want.data, true)
}

// TestMendedRecordsShareNoMemory has equal records whose Values are one list,
// which fail and do not.
func TestMendedRecordsShareNoMemory(t *testing.T) {
	s, l := schemaOf("sex2", "age3"), []impl.Edit{edit(1, 6), edit(2, 4)}
	for _, values := range [][]int{{0, 1}, {1, 1}} {
		same := slices.Clone(values)
		r := impl.Record{Area: 4, House: 5, Values: values}
		data := slices.Repeat([]impl.Record{r}, 5)
		want := slices.Repeat([]impl.Record{person(4, 5, 1, 1)}, 5)
		mended, costs, ok := impl.MendData(s, l, []int{1, 5}, data)
		expectMendedData(t, "MendData", mended, costs, ok, want, slices.Repeat([]int{1 - values[0]}, 5), true)
		spoilData(t, "MendData", mended)
		clobber(costs, -99)
		if !slices.Equal(values, same) || !sameRecord(data[0], r) || data[0].Area != 4 {
			t.Error("a result shares memory with an argument", values, data)
		}
	}
}

// TestArgumentsOfMendingAreOneList gives one list as several arguments.
func TestArgumentsOfMendingAreOneList(t *testing.T) {
	s, both := schemaOf("age3", "b2"), []int{0, 1}
	l := []impl.Edit{edit(1, 2), edit(2, 3)}
	p := newRepair(newEditTable(s), l, ones(s))
	checkChanges(t, p, [][]int{both, both}, [][]int{both})
	checkDonorMend(t, p, both, both)
	equal := []int{1, 1}
	p.weights = equal
	checkChanges(t, p, [][]int{equal}, setsOfVariables(2))
	checkDonorMend(t, p, equal, equal)
	checkDonors(t, p, []impl.Record{{Values: equal}, {Values: equal}}, [][]int{equal})
	for range 3 {
		mended, _ := impl.MendValues(s, l, equal, equal)
		clobber(mended, -99)
		replaced, _, _ := impl.DonorMend(s, l, equal, equal, equal)
		clobber(replaced, -99)
	}
	if !slices.Equal(both, []int{0, 1}) || !slices.Equal(equal, []int{1, 1}) {
		t.Error("changed", both, equal)
	}
}

func TestChapter7KeepsNoState(t *testing.T) {
	s, l := schemaOf("sex2", "age3"), []impl.Edit{edit(1, 6), edit(2, 4)}
	p := newRepair(newEditTable(s), l, []int{1, 5})
	data := []impl.Record{person(3, 12, 0, 1), person(3, 11, 1, 1), person(0, 0, 0, 0)}
	for range 20 {
		callChapter7(schemaOf("sex3", "age3"), []impl.Edit{edit(5, 7), edit(4, 1)}, []int{9, 9}, []int{0}, []int{2, 2}, []impl.Record{person(1, 1, 2, 2)})
		callChapter7(s, []impl.Edit{edit(4, 7)}, []int{1, 1}, nil, []int{0, 0}, data)
		callChapter7(s, []impl.Edit{edit(3, 7)}, []int{5, 1}, nil, []int{0, 0}, data)
		checkChanges(t, p, listsOfValues(s), setsOfVariables(2))
		checkDonors(t, p, data, listsOfValues(s))
	}
}
