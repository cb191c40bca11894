package tests

import (
	"fmt"
	"math/rand"
	"slices"
	"testing"

	"loop.example/g00908/impl"
)

// TestChapter3RefusesInvalidSchemas gives records with as many values as the
// schema has variables, and others.
func TestChapter3RefusesInvalidSchemas(t *testing.T) {
	for _, s := range invalidSchemas() {
		g := impl.Grouping{Var: 0, Groups: []int{0, 1}}
		for _, values := range [][]int{nil, make([]int, len(s)), {0}, {0, 1}, extremeInts()} {
			refusesSchemaOfRecord(t, s, impl.Record{Area: 3, House: 12, Values: values})
			refusesSchemaOfData(t, s, g, []impl.Record{{Values: values}, {Area: 29, House: 999, Values: values}})
		}
		refusesSchemaOfRecord(t, s, impl.Record{})
		refusesSchemaOfData(t, s, g, nil)
		refusesSchemaOfData(t, s, impl.Grouping{}, make([]impl.Record, 50))
	}
}

func refusesSchemaOfRecord(t *testing.T, s []impl.Variable, r impl.Record) {
	t.Helper()
	is, ok := impl.IsRecord(s, r)
	expectBool(t, fmt.Sprint("IsRecord ", s, r), is, ok, false, false)
	refusesValues(t, s, r, r.Values)
	refusesValues(t, s, r, nil)
}

func refusesSchemaOfData(t *testing.T, s []impl.Variable, g impl.Grouping, l []impl.Record) {
	t.Helper()
	is, ok := impl.IsData(s, l)
	expectBool(t, fmt.Sprint("IsData ", s, l), is, ok, false, false)
	refusesData(t, s, g, nil, l)
	for _, text := range []string{"", "0 0 \n", "0 0 0\n", "0 0 00\n", textOfData(l)} {
		got, ok := impl.ParseData(s, text)
		expectData(t, fmt.Sprint("ParseData ", s, text), got, ok, nil, false)
	}
}

// TestChapter3AcceptsAllNumbers fails also by the panic of a call.
func TestChapter3AcceptsAllNumbers(t *testing.T) {
	s := schemaOf("age3", "b2")
	for _, a := range extremeInts() {
		for _, b := range extremeInts() {
			for _, r := range []impl.Record{person(a, b, 0, 0), person(0, 0, a, b), person(a, 0, b, 0), person(0, b, a, 1)} {
				good := recordIsGood(s, r)
				is, ok := impl.IsRecord(s, r)
				expectBool(t, fmt.Sprint("IsRecord ", r), is, ok, good, true)
				checkNumbers(t, s, r, a, good)
			}
			callChapter3(s, impl.Grouping{Var: a, Groups: []int{b, a, b}}, []impl.Record{person(1, 2, 2, 1)}, []int{a, b}, a)
			callChapter3([]impl.Variable{{Name: "a", Levels: a}, {Name: "b", Levels: b}}, impl.Grouping{Var: 1, Groups: []int{0, 1}}, []impl.Record{person(a, b, a, b)}, []int{a, b}, b)
			checkParseData(t, s, fmt.Sprintf("%d %d 21\n", a, b))
			checkParseData(t, s, fmt.Sprintf("0 0 %d%d\n", a, b))
		}
	}
}

// checkNumbers calls the functions with a record that is good or not.
func checkNumbers(t *testing.T, s []impl.Variable, r impl.Record, i int, good bool) {
	t.Helper()
	l := []impl.Record{person(1, 2, 1, 1), r}
	if good {
		checkData(t, s, l)
	} else {
		refusesData(t, s, impl.Grouping{Var: 1, Groups: []int{1, 0}}, nil, l)
	}
	_, ok := impl.RemoveRecord(s, l, i)
	if ok != (good && (i == 0 || i == 1)) {
		t.Error("RemoveRecord", l, i, ok)
	}
	if n := impl.CompareRecords(r, l[0]); n != orderOf(r, l[0]) {
		t.Error("CompareRecords", l, n)
	}
}

// callChapter3 calls every function of chapter 3 with the arguments.
func callChapter3(s []impl.Variable, g impl.Grouping, l []impl.Record, values []int, i int) {
	for _, r := range l {
		impl.IsRecord(s, r)
		impl.CompareRecords(r, l[0])
		impl.ReplaceValues(s, r, values)
	}
	impl.IsData(s, l)
	impl.SortData(s, l)
	impl.SameData(s, l, l)
	impl.HouseholdsOf(s, l)
	impl.GroupData(s, g, l)
	impl.RemoveRecord(s, l, i)
	text, _ := impl.DataText(s, l)
	impl.ParseData(s, text)
}

// world is the arguments of a call, with elements behind each list.
type world struct {
	s      []impl.Variable
	groups []int
	l      []impl.Record
	values [][]int
	with   []int
}

func newWorld() world {
	w := world{s: schemaOf("zz3", "age4", "b2", "end2"), groups: []int{1, 0, 1, 2, 99}, with: []int{2, 3, 1, 77}}
	w.values = [][]int{{2, 3, 1, 5}, {0, 1, 0, 6}, {2, 3, 1, 7}, {0, 0, 0, 8}, {1, 1, 1, 9}}
	for i, values := range w.values {
		w.l = append(w.l, impl.Record{Area: 29 - i%3*9, House: i % 2 * 12, Values: values[:3]})
	}
	w.l = append(w.l, impl.Record{Area: 77, House: -7})
	return w
}

// arguments are those of the world without what lies behind the lists.
func (w world) arguments() ([]impl.Variable, impl.Grouping, []impl.Record, []int) {
	return w.s[:3], impl.Grouping{Var: 1, Groups: w.groups[:4]}, w.l[:5], w.with[:3]
}

func TestChapter3LeavesItsArguments(t *testing.T) {
	before := fmt.Sprint(newWorld())
	for i := -1; i <= 5; i++ {
		w := newWorld()
		s, g, l, with := w.arguments()
		callChapter3(s, g, l, with, i)
		if after := fmt.Sprint(w); after != before {
			t.Error("changed", after, before)
		}
	}
	for _, spoil := range []func(w *world){
		func(w *world) { w.s[1].Name = "zz" },
		func(w *world) { w.groups[0] = 7 },
		func(w *world) { w.with[1] = 4 },
		func(w *world) { w.l[2].Area = 30 },
		func(w *world) { w.l[4].Values = w.l[4].Values[:2] },
		func(w *world) { w.values[3][0] = 3 },
	} {
		w := newWorld()
		spoil(&w)
		before := fmt.Sprint(w)
		s, g, l, with := w.arguments()
		callChapter3(s, g, l, with, 1)
		if after := fmt.Sprint(w); after != before {
			t.Error("changed", after, before)
		}
	}
}

func TestChapter3DoesNotReadSpareCapacity(t *testing.T) {
	w := newWorld()
	s, g, l, with := w.arguments()
	checkData(t, s, l)
	checkData(t, s, l[:2])
	checkGroupData(t, s, g, l)
	got, ok := impl.ReplaceValues(s, l[0], with)
	if !sameRecord(got, person(29, 0, 2, 3, 1)) || !ok {
		t.Error("ReplaceValues", got, ok)
	}
	fewer, ok := impl.RemoveRecord(s, l[:2], 2)
	expectData(t, "RemoveRecord behind the last record", fewer, ok, nil, false)
	is, ok := impl.IsRecord(w.s, l[0])
	expectBool(t, "IsRecord with too few values", is, ok, false, true)
	refusesValues(t, w.s, impl.Record{Values: w.values[1][:4]}, with)
	if n := impl.CompareRecords(person(1, 1, 5, 6), impl.Record{Area: 1, House: 1, Values: []int{5, 6, 7}[:1]}); n != 1 {
		t.Error("CompareRecords with a longer list", n)
	}
}

// spoilData overwrites records and their Values, one of them after the other,
// and looks whether another changes.
func spoilData(t *testing.T, call string, l []impl.Record) {
	t.Helper()
	for i := range l {
		rest := copyData(l[i+1:])
		clobber(l[i].Values, -99)
		expectData(t, call+" behind a record that is overwritten", l[i+1:], true, rest, true)
	}
	clobber(l, impl.Record{Area: -99})
}

// TestChapter3ResultsAreNew overwrites the results and looks at the arguments,
// and calls again.
func TestChapter3ResultsAreNew(t *testing.T) {
	w := newWorld()
	before := fmt.Sprint(w)
	for range 3 {
		s, g, l, with := w.arguments()
		sorted, ok := impl.SortData(s, l)
		expectData(t, "SortData", sorted, ok, sortedOf(l), true)
		spoilData(t, "SortData", sorted)
		grouped, ok := impl.GroupData(s, g, l)
		expectData(t, "GroupData", grouped, ok, groupedOf(g, l), true)
		spoilData(t, "GroupData", grouped)
		fewer, ok := impl.RemoveRecord(s, l, 2)
		expectData(t, "RemoveRecord", fewer, ok, append(copyData(l[:2]), l[3:]...), true)
		spoilData(t, "RemoveRecord", fewer)
		read, ok := impl.ParseData(s, textOfData(l))
		expectData(t, "ParseData", read, ok, l, true)
		spoilData(t, "ParseData", read)
		other, ok := impl.ReplaceValues(s, l[1], with)
		if !sameRecord(other, person(20, 12, 2, 3, 1)) || !ok {
			t.Error("ReplaceValues", other, ok)
		}
		clobber(other.Values, -99)
		if after := fmt.Sprint(w); after != before {
			t.Fatal("a result shares memory with an argument", after, before)
		}
	}
}

// TestChapter3ResultsStay overwrites the arguments after the calls.
func TestChapter3ResultsStay(t *testing.T) {
	w := newWorld()
	s, g, l, with := w.arguments()
	sorted, _ := impl.SortData(s, l)
	grouped, _ := impl.GroupData(s, g, l)
	fewer, _ := impl.RemoveRecord(s, l, 0)
	last, _ := impl.RemoveRecord(s, l, 4)
	other, _ := impl.ReplaceValues(s, l[0], with)
	households, _ := impl.HouseholdsOf(s, l)
	same := copyData(l)
	for _, values := range w.values {
		clobber(values, -99)
	}
	clobber(w.l, impl.Record{Area: -99})
	clobber(w.groups, -99)
	clobber(w.with, -99)
	clobber(w.s, impl.Variable{})
	g = impl.Grouping{Var: 1, Groups: []int{1, 0, 1, 2}}
	expectData(t, "SortData kept", sorted, true, sortedOf(same), true)
	expectData(t, "GroupData kept", grouped, true, groupedOf(g, same), true)
	expectData(t, "RemoveRecord kept", fewer, true, same[1:], true)
	expectData(t, "RemoveRecord of the last kept", last, true, same[:4], true)
	expectData(t, "ReplaceValues kept", []impl.Record{other}, true, []impl.Record{person(29, 0, 2, 3, 1)}, true)
	expectHouseholds(t, "HouseholdsOf kept", households, true, householdsOf(same), true)
}

// TestMembersShareNoMemory overwrites the Members of each household, and what
// their capacity holds behind them.
func TestMembersShareNoMemory(t *testing.T) {
	s, r := schemaOf("b2"), rand.New(rand.NewSource(39))
	for n := range 41 {
		l := randomData(r, s, n)
		households, ok := impl.HouseholdsOf(s, l)
		want := householdsOf(l)
		expectHouseholds(t, "HouseholdsOf", households, ok, want, true)
		for i := range households {
			clobber(households[i].Members, -99)
			expectHouseholds(t, "HouseholdsOf behind a household that is overwritten", households[i+1:], true, want[i+1:], true)
		}
	}
}

// TestRecordsWithOneListOfValues gives records whose Values are one list.
func TestRecordsWithOneListOfValues(t *testing.T) {
	s := schemaOf("age3", "b2")
	values := []int{2, 1}
	l := []impl.Record{{Area: 4, Values: values}, {Area: 3, Values: values}, {Area: 4, Values: values}}
	g := impl.Grouping{Var: 0, Groups: []int{0, 0, 1}}
	checkData(t, s, l)
	checkGroupData(t, s, g, l)
	sorted, _ := impl.SortData(s, l)
	spoilData(t, "SortData", sorted)
	grouped, _ := impl.GroupData(s, g, l)
	spoilData(t, "GroupData", grouped)
	fewer, _ := impl.RemoveRecord(s, l, 1)
	spoilData(t, "RemoveRecord", fewer)
	same, _ := impl.ReplaceValues(s, l[0], values)
	clobber(same.Values, -99)
	if !slices.Equal(values, []int{2, 1}) {
		t.Error("a result shares memory with an argument", values)
	}
}

func TestChapter3KeepsNoState(t *testing.T) {
	s := schemaOf("sex2", "age3")
	l := []impl.Record{person(3, 12, 1, 2), person(3, 11, 0, 0), person(3, 12, 1, 2)}
	for range 50 {
		impl.ParseData(s, "1 2 00\n1 2 01\n")
		impl.SortData(s, l[:1])
		impl.HouseholdsOf(s, []impl.Record{person(5, 5, 0, 0), person(5, 5, 0, 0)})
		impl.SameData(s, l, nil)
		impl.GroupData(s, impl.Grouping{Var: 1, Groups: []int{1, 1, 0}}, l)
		impl.DataText(s, []impl.Record{person(30, 0, 0, 0)})
		checkData(t, s, l)
	}
}
