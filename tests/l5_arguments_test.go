package tests

import (
	"fmt"
	"slices"
	"testing"

	"loop.example/g00908/impl"
)

// TestChapter5RefusesInvalidSchemas gives edits, values and data that have as
// many elements as the schema has variables, and others.
func TestChapter5RefusesInvalidSchemas(t *testing.T) {
	for _, s := range invalidSchemas() {
		for _, e := range []impl.Edit{{}, {Sets: make([]int, len(s))}, {Sets: slices.Repeat([]int{1}, len(s))}, edit(1), edit(1, 1), edit(extremeInts()...)} {
			is, ok := impl.IsEdit(s, e)
			expectBool(t, fmt.Sprint("IsEdit ", s, e), is, ok, false, false)
			for _, values := range [][]int{nil, make([]int, len(s)), {0}} {
				refusesEdit(t, s, e, edit(1), values)
				refusesList(t, s, []impl.Edit{e}, values, []impl.Record{{Values: values}})
				refusesList(t, s, nil, values, nil)
			}
		}
		texts := []string{"", "all", "=0", "a=0", "a=1", "sex=0", "sex=0 age=1"}
		for _, v := range s[:min(len(s), 7)] {
			texts = append(texts, v.Name+"=0", v.Name+"=1")
		}
		for _, text := range texts {
			e, ok := impl.ParseEdit(s, text)
			expectEdit(t, fmt.Sprint("ParseEdit ", s, text), e, ok, impl.Edit{}, false)
		}
	}
}

// TestChapter5AcceptsAllNumbers fails also by the panic of a call.
func TestChapter5AcceptsAllNumbers(t *testing.T) {
	s := schemaOf("age3", "b2")
	numbers := append(extremeInts(), 3, 4, 5, 6, 7, 8, 1<<32, 1<<32+1, 1<<62, -1<<62)
	for _, a := range numbers {
		for _, b := range numbers {
			acceptsEdit(t, s, edit(a, b), edit(5, 3))
			acceptsValues(t, s, []int{a, b})
			callChapter5([]impl.Variable{{Name: "a", Levels: a}, {Name: "b", Levels: b}}, []impl.Edit{edit(a, b), edit(1, 1)}, []int{a, b}, []impl.Record{person(a, b, a, b), person(0, 0, 0, 0)})
			callChapter5(s, []impl.Edit{edit(7, 3), edit(a, b)}, []int{b, a}, []impl.Record{person(a, b, 2, 1)})
			checkParseEdit(t, s, fmt.Sprintf("age=%d b=%d", a, b))
			checkParseEdit(t, s, fmt.Sprintf("age=%d,%d", a, b))
		}
	}
}

// acceptsEdit calls the functions with an edit that is good or not.
func acceptsEdit(t *testing.T, s []impl.Variable, e, other impl.Edit) {
	t.Helper()
	if !editIsGood(s, e) {
		is, ok := impl.IsEdit(s, e)
		expectBool(t, fmt.Sprint("IsEdit ", e), is, ok, false, true)
		refusesEdit(t, s, e, other, []int{0, 0})
		refusesList(t, s, []impl.Edit{other, e}, []int{0, 0}, nil)
		return
	}
	lists := listsOfValues(s)
	checkEdit(t, s, e, lists)
	checkPair(t, s, e, other)
	checkPair(t, s, other, e)
	checkList(t, s, []impl.Edit{other, e}, lists, []impl.Record{{Values: lists[0]}, farRecord(s)})
}

// acceptsValues calls the functions with values that are good or not.
func acceptsValues(t *testing.T, s []impl.Variable, values []int) {
	t.Helper()
	r := impl.Record{Area: 3, House: 12, Values: values}
	l := []impl.Edit{edit(6, 3), edit(1, 1), edit(7, 3)}
	if recordIsGood(s, r) {
		checkList(t, s, l, [][]int{values}, []impl.Record{r, r})
		return
	}
	fails, ok := impl.FailsEdit(s, l[2], values)
	expectBool(t, fmt.Sprint("FailsEdit ", values), fails, ok, false, false)
	failed, ok := impl.FailedEdits(s, l, values)
	expectInts(t, fmt.Sprint("FailedEdits ", values), failed, ok, nil, false)
	counts, ok := impl.FailureCounts(s, l, []impl.Record{r})
	expectInts(t, fmt.Sprint("FailureCounts ", r), counts, ok, nil, false)
}

// callChapter5 calls every function of chapter 5 with the arguments.
func callChapter5(s []impl.Variable, l []impl.Edit, values []int, data []impl.Record) {
	for _, e := range l {
		impl.IsEdit(s, e)
		impl.FailsEdit(s, e, values)
		impl.InvolvedIn(s, e)
		impl.CountFailing(s, e)
		impl.ContainsEdit(s, e, l[0])
		impl.ContainsEdit(s, l[0], e)
		impl.MeetEdits(s, e, l[0])
		impl.MeetEdits(s, l[0], e)
		text, _ := impl.EditText(s, e)
		impl.ParseEdit(s, text)
	}
	impl.FailedEdits(s, l, values)
	impl.CountPassing(s, l)
	impl.FirstPassing(s, l)
	impl.FailureCounts(s, l, data)
}

// editWorld is the arguments of a call, with elements behind each list.
type editWorld struct {
	world
	edits []impl.Edit
	sets  [][]int
}

func newEditWorld() editWorld {
	w := editWorld{world: newWorld()}
	w.sets = [][]int{{6, 15, 2, 99}, {7, 9, 3, -5}, {4, 8, 2, 0}, {5, 6, 1, 8}}
	for _, sets := range w.sets {
		w.edits = append(w.edits, impl.Edit{Sets: sets[:3]})
	}
	w.edits = append(w.edits, edit(-7))
	return w
}

// given are the arguments of the world without what lies behind the lists.
func (w editWorld) given() ([]impl.Variable, []impl.Edit, []int, []impl.Record) {
	s, _, data, values := w.arguments()
	return s, w.edits[:4], values, data
}

func TestChapter5LeavesItsArguments(t *testing.T) {
	for _, spoil := range []func(w *editWorld){
		func(w *editWorld) {},
		func(w *editWorld) { w.s[1].Name = "zz" },
		func(w *editWorld) { w.s[2].Levels = 9 },
		func(w *editWorld) { w.sets[1][1] = 16 },
		func(w *editWorld) { w.sets[3][2] = 0 },
		func(w *editWorld) { w.edits[2].Sets = w.sets[2][:2] },
		func(w *editWorld) { w.edits[0].Sets = w.sets[0][:4] },
		func(w *editWorld) { w.with[1] = 4 },
		func(w *editWorld) { w.l[2].Area = 30 },
		func(w *editWorld) { w.values[3][0] = 3 },
	} {
		w := newEditWorld()
		spoil(&w)
		before := fmt.Sprint(w)
		s, l, values, data := w.given()
		callChapter5(s, l, values, data)
		if after := fmt.Sprint(w); after != before {
			t.Error("changed", after, before)
		}
	}
}

func TestChapter5DoesNotReadSpareCapacity(t *testing.T) {
	w := newEditWorld()
	s, l, values, data := w.given()
	for n := range 5 {
		checkList(t, s, l[:n], [][]int{values}, data[:n])
	}
	for i, e := range l {
		checkEdit(t, s, e, [][]int{values})
		checkPair(t, s, e, l[0])
		is, ok := impl.IsEdit(w.s, e)
		expectBool(t, fmt.Sprint("IsEdit with too few sets ", e), is, ok, false, true)
		refusesEdit(t, w.s, e, editOfAll(w.s), w.with[:4])
		shorter := impl.Edit{Sets: w.sets[i][:2]}
		refusesEdit(t, s, shorter, e, values)
		refusesList(t, s, []impl.Edit{e, shorter}, values, data)
		fails, ok := impl.FailsEdit(s, e, values[:2])
		expectBool(t, fmt.Sprint("FailsEdit with too few values ", e), fails, ok, false, false)
	}
	refusesList(t, s, w.edits, values, data)
	text := "zz=0 b=1 end=0"
	e, ok := impl.ParseEdit(s, text)
	expectEdit(t, "ParseEdit "+text, e, ok, impl.Edit{}, false)
}

// listsOfEdits returns what the functions with a list or an edit as their
// result return.
func listsOfEdits(s []impl.Variable, l []impl.Edit, values []int, data []impl.Record) [][]int {
	failed, _ := impl.FailedEdits(s, l, values)
	first, _ := impl.FirstPassing(s, l)
	none, _ := impl.FirstPassing(s, nil)
	counts, _ := impl.FailureCounts(s, l, data)
	lists := [][]int{failed, first, none, counts}
	for _, e := range l {
		involved, _ := impl.InvolvedIn(s, e)
		meet, _ := impl.MeetEdits(s, e, l[0])
		same, _ := impl.MeetEdits(s, e, e)
		read, _ := impl.ParseEdit(s, textOfEdit(s, e))
		lists = append(lists, involved, meet.Sets, same.Sets, read.Sets)
	}
	return append(lists, readAll(s).Sets)
}

func readAll(s []impl.Variable) impl.Edit {
	e, _ := impl.ParseEdit(s, "all")
	return e
}

// expectedOfEdits says what listsOfEdits must return.
func expectedOfEdits(s []impl.Variable, l []impl.Edit, values []int, data []impl.Record) [][]int {
	lists := [][]int{failedOf(l, values), passingOf(s, l)[0], make([]int, len(s)), failureCountsOf(l, data)}
	for _, e := range l {
		meet, _ := meetOfEdits(e, l[0])
		lists = append(lists, involvedOf(s, e), meet.Sets, slices.Clone(e.Sets), slices.Clone(e.Sets))
	}
	return append(lists, editOfAll(s).Sets)
}

// TestChapter5ResultsAreNew overwrites the results, one after the other, and
// what their capacity holds behind them, and looks at the others, at the
// arguments and at what the next calls return.
func TestChapter5ResultsAreNew(t *testing.T) {
	w := newEditWorld()
	s, l, values, data := w.given()
	before, want := fmt.Sprint(w), expectedOfEdits(s, l, values, data)
	for range 3 {
		lists := listsOfEdits(s, l, values, data)
		expectLists(t, "results", lists, want)
		for i := range lists {
			clobber(lists[i], -99)
			expectLists(t, "results behind one that is overwritten", lists[i+1:], want[i+1:])
		}
		if after := fmt.Sprint(w); after != before {
			t.Fatal("a result shares memory with an argument", after, before)
		}
	}
}

// TestChapter5ResultsStay overwrites the arguments after the calls.
func TestChapter5ResultsStay(t *testing.T) {
	w := newEditWorld()
	s, l, values, data := w.given()
	lists, want := listsOfEdits(s, l, values, data), expectedOfEdits(s, l, values, data)
	for _, sets := range w.sets {
		clobber(sets, -99)
	}
	for _, values := range w.values {
		clobber(values, -99)
	}
	clobber(w.edits, impl.Edit{})
	clobber(w.l, impl.Record{Area: -99})
	clobber(w.with, -99)
	clobber(w.s, impl.Variable{})
	expectLists(t, "results kept", lists, want)
}

// TestEditsWithOneListOfSets gives edits whose Sets are one list.
func TestEditsWithOneListOfSets(t *testing.T) {
	s := schemaOf("age3", "b2")
	e := edit(6, 3)
	l := []impl.Edit{e, e, e}
	checkList(t, s, l, listsOfValues(s), []impl.Record{farRecord(s), farRecord(s)})
	checkPair(t, s, e, e)
	meet, _ := impl.MeetEdits(s, e, e)
	clobber(meet.Sets, -99)
	if !slices.Equal(e.Sets, []int{6, 3}) {
		t.Error("a result shares memory with an argument", e)
	}
}

func TestChapter5KeepsNoState(t *testing.T) {
	s, l := schemaOf("sex2", "age3"), []impl.Edit{edit(1, 6), edit(3, 1), edit(1, 6)}
	for range 50 {
		impl.ParseEdit(s, "sex=1 age=0,2")
		impl.ParseEdit(s, "sex=1 age=0,1,2")
		callChapter5(schemaOf("sex3", "age3"), []impl.Edit{edit(5, 7), edit(4, 1)}, []int{2, 2}, []impl.Record{person(0, 0, 2, 2)})
		callChapter5(s, []impl.Edit{edit(4, 7)}, []int{0, 0}, nil)
		checkList(t, s, l, listsOfValues(s), []impl.Record{person(3, 12, 0, 2), person(3, 11, 1, 0)})
		checkEdit(t, s, l[0], listsOfValues(s))
		checkPair(t, s, l[0], l[1])
	}
}
