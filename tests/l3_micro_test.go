package tests

import (
	"fmt"
	"math"
	"math/rand"
	"slices"
	"testing"

	"loop.example/g00908/impl"
)

func TestIsRecord(t *testing.T) {
	for _, s := range append(smallSchemas(), largestSchema()) {
		zero := make([]int, len(s))
		for _, r := range []impl.Record{farRecord(s), {Values: zero}, {Area: 29, Values: zero}, {House: 999, Values: zero}, {Area: 12, House: 345, Values: zero}} {
			is, ok := impl.IsRecord(s, r)
			expectBool(t, fmt.Sprint("IsRecord ", s, r), is, ok, true, true)
		}
		for _, r := range wrongRecords(s) {
			is, ok := impl.IsRecord(s, r)
			expectBool(t, fmt.Sprint("IsRecord ", s, r), is, ok, false, true)
		}
	}
}

// TestIsRecordLooksAtEachNumber goes through all numbers about the bounds.
func TestIsRecordLooksAtEachNumber(t *testing.T) {
	s := schemaOf("sex2", "age3")
	for n := -40; n <= 1040; n++ {
		for _, r := range []impl.Record{person(n, 0, 0, 0), person(0, n, 0, 0), person(29, n, 1, 2), person(n, 999, 1, 2), person(0, 0, n, 0), person(0, 0, 0, n)} {
			is, ok := impl.IsRecord(s, r)
			expectBool(t, fmt.Sprint("IsRecord ", r), is, ok, recordIsGood(s, r), true)
		}
	}
	for _, values := range allNumbers(3, -1, 4) {
		r := impl.Record{Area: 3, House: 4, Values: values}
		is, ok := impl.IsRecord(schemaOf("c4", "b2", "a3"), r)
		expectBool(t, fmt.Sprint("IsRecord ", r), is, ok, recordIsGood(schemaOf("c4", "b2", "a3"), r), true)
	}
}

func TestIsData(t *testing.T) {
	r := rand.New(rand.NewSource(31))
	for _, s := range append(smallSchemas(), largestSchema()) {
		for n := range 41 {
			l := randomData(r, s, n)
			is, ok := impl.IsData(s, l)
			expectBool(t, fmt.Sprint("IsData ", s, l), is, ok, true, true)
			is, ok = impl.IsData(s, slices.Repeat([]impl.Record{farRecord(s)}, n))
			expectBool(t, fmt.Sprint("IsData of equal records ", s, n), is, ok, true, true)
		}
		for _, l := range wrongData(s) {
			is, ok := impl.IsData(s, l)
			expectBool(t, fmt.Sprint("IsData ", s, l), is, ok, false, true)
		}
	}
}

// TestIsDataLooksAtEachRecord places a wrong record everywhere.
func TestIsDataLooksAtEachRecord(t *testing.T) {
	s := schemaOf("sex2", "age3")
	for n := 1; n <= 40; n++ {
		for place := range n {
			for _, bad := range []impl.Record{person(30, 0, 0, 0), person(0, 1000, 0, 0), person(0, 0, 0, 3), person(0, 0, 0)} {
				l := slices.Repeat([]impl.Record{person(1, 2, 1, 2)}, n)
				l[place] = bad
				is, ok := impl.IsData(s, l)
				expectBool(t, fmt.Sprint("IsData ", l), is, ok, false, true)
			}
		}
	}
}

// TestCompareRecords compares all pairs of some records, good and bad.
func TestCompareRecords(t *testing.T) {
	var lists [][]int
	for n := range 4 {
		lists = append(lists, allNumbers(n, 0, 1)...)
	}
	lists = append(lists, nil, []int{-1}, []int{1, -1}, []int{math.MinInt}, []int{math.MaxInt}, []int{math.MaxInt, 0}, []int{0, 1, 1, 1, 1, 1, 1, 1, 1})
	var l []impl.Record
	for _, area := range []int{math.MinInt, -1, 0, 1, 29, 30, math.MaxInt} {
		for _, house := range []int{math.MinInt, 0, 1, math.MaxInt} {
			for _, values := range lists {
				l = append(l, impl.Record{Area: area, House: house, Values: values})
			}
		}
	}
	for _, a := range l {
		for _, b := range l {
			if n := impl.CompareRecords(a, b); n != orderOf(a, b) {
				t.Fatal("CompareRecords", a, b, n)
			}
		}
	}
}

func TestCompareRecordsExamples(t *testing.T) {
	cases := []struct {
		a, b impl.Record
		want int
	}{
		{impl.Record{}, impl.Record{}, 0},
		{person(3, 12, 0, 1, 4), person(3, 12, 0, 1, 4), 0},
		{person(3, 12, 0, 1, 4), person(3, 11, 1, 0, 0), 1},
		{person(3, 12, 0, 1, 4), person(4, 0, 0, 0, 0), -1},
		{person(3, 12, 0, 1, 4), person(2, 999, 1, 2, 4), 1},
		{person(3, 12, 0, 1, 4), person(3, 12, 0, 2, 0), -1},
		{person(3, 12, 1, 0, 0), person(3, 12, 0, 2, 4), 1},
		{person(3, 12), person(3, 12, 0), -1},
		{person(3, 12, 0, 1), person(3, 12, 0, 1, 0), -1},
		{person(3, 12, 0, 1, -1), person(3, 12, 0, 1), 1},
		{person(3, 12, 1), person(3, 12, 0, 1, 2), 1},
		{person(3, 12, 5), person(3, 13), -1},
		{person(-3, -12, -5), person(-3, -12, -4), -1},
		{person(math.MinInt, math.MaxInt), person(math.MaxInt, math.MinInt), -1},
		{person(0, math.MaxInt), person(0, math.MinInt), 1},
		{person(0, 0, math.MaxInt), person(0, 0, math.MinInt), 1},
	}
	for _, c := range cases {
		if n := impl.CompareRecords(c.a, c.b); n != c.want {
			t.Error("CompareRecords", c.a, c.b, n)
		}
		if n := impl.CompareRecords(c.b, c.a); n != -c.want {
			t.Error("CompareRecords", c.b, c.a, n)
		}
	}
}

func TestSortDataExamples(t *testing.T) {
	s := schemaOf("sex2", "age3")
	l := []impl.Record{person(3, 12, 1, 0), person(3, 2, 0, 2), person(3, 12, 0, 2), person(0, 999, 1, 2), person(3, 12, 1, 0), person(29, 0, 0, 0), person(3, 12, 0, 1)}
	want := []impl.Record{l[3], l[1], l[6], l[2], l[0], l[4], l[5]}
	got, ok := impl.SortData(s, l)
	expectData(t, "SortData", got, ok, want, true)
	got, ok = impl.SortData(s, nil)
	expectData(t, "SortData of no records", got, ok, nil, true)
	got, ok = impl.SortData(s, l[:1])
	expectData(t, "SortData of a record", got, ok, l[:1], true)
	got, ok = impl.SortData(s, []impl.Record{l[0], l[0], l[4]})
	expectData(t, "SortData of equal records", got, ok, []impl.Record{l[0], l[0], l[0]}, true)
}

// fewRecords returns lists of up to n records of a schema with one variable.
func fewRecords(n int) [][]impl.Record {
	var lists [][]impl.Record
	for count := range n + 1 {
		for _, kinds := range allNumbers(count, 0, 7) {
			var l []impl.Record
			for _, k := range kinds {
				l = append(l, person(k/4, k/2%2, k%2))
			}
			lists = append(lists, l)
		}
	}
	return lists
}

// checkData calls the functions that need no more than data.
func checkData(t *testing.T, s []impl.Variable, l []impl.Record) {
	t.Helper()
	call := fmt.Sprint(s, l)
	sorted, ok := impl.SortData(s, l)
	expectData(t, "SortData "+call, sorted, ok, sortedOf(l), true)
	again, ok := impl.SortData(s, sorted)
	expectData(t, "SortData of sorted data "+call, again, ok, sorted, true)
	same, ok := impl.SameData(s, l, sorted)
	expectBool(t, "SameData of sorted data "+call, same, ok, true, true)
	households, ok := impl.HouseholdsOf(s, l)
	expectHouseholds(t, "HouseholdsOf "+call, households, ok, householdsOf(l), true)
	text, ok := impl.DataText(s, l)
	expectText(t, "DataText "+call, text, ok, textOfData(l), true)
	back, ok := impl.ParseData(s, text)
	expectData(t, "ParseData "+text, back, ok, l, true)
	for i := range l {
		fewer, ok := impl.RemoveRecord(s, l, i)
		want := slices.Delete(slices.Clone(l), i, i+1)
		expectData(t, fmt.Sprint("RemoveRecord ", i, " ", call), fewer, ok, want, true)
	}
}

func TestAllFewRecords(t *testing.T) {
	for _, l := range fewRecords(4) {
		checkData(t, schemaOf("b2"), l)
	}
}

func TestRandomData(t *testing.T) {
	r := rand.New(rand.NewSource(32))
	for range 40 {
		s := randomSchema(r)
		for n := range 41 {
			checkData(t, s, randomData(r, s, n))
		}
	}
	for _, s := range append(smallSchemas(), largestSchema()) {
		checkData(t, s, randomData(r, s, 40))
		checkData(t, s, slices.Repeat([]impl.Record{farRecord(s)}, 40))
	}
}

// TestEachPersonAlone gives each record a household of its own.
func TestEachPersonAlone(t *testing.T) {
	s := schemaOf("age8", "b2")
	var l []impl.Record
	for i := range 40 {
		l = append(l, person(i*7%30, i*389%1000, i%8, i%2))
	}
	checkData(t, s, l)
	households, ok := impl.HouseholdsOf(s, l)
	if len(households) != 40 || !ok {
		t.Error("HouseholdsOf", households, ok)
	}
}

func TestSameData(t *testing.T) {
	s, lists := schemaOf("b2"), fewRecords(3)
	for _, a := range lists {
		for _, b := range lists {
			same, ok := impl.SameData(s, a, b)
			if same != areSame(a, b) || !ok {
				t.Fatal("SameData", a, b, same, ok)
			}
		}
	}
}

// TestSameDataCounts changes one record of many.
func TestSameDataCounts(t *testing.T) {
	r := rand.New(rand.NewSource(33))
	for range 300 {
		s := randomSchema(r)
		a := randomData(r, s, 2+r.Intn(39))
		b := copyData(a)
		r.Shuffle(len(b), func(i, k int) { b[i], b[k] = b[k], b[i] })
		same, ok := impl.SameData(s, a, b)
		expectBool(t, fmt.Sprint("SameData ", a, b), same, ok, true, true)
		same, ok = impl.SameData(s, a, b[1:])
		expectBool(t, fmt.Sprint("SameData of fewer ", a, b[1:]), same, ok, false, true)
		same, ok = impl.SameData(s, b[1:], a)
		expectBool(t, fmt.Sprint("SameData of more ", b[1:], a), same, ok, false, true)
		b[0] = copyData(b[1:])[r.Intn(len(b)-1)]
		same, ok = impl.SameData(s, a, b)
		expectBool(t, fmt.Sprint("SameData of one more often ", a, b), same, ok, areSame(a, b), true)
		same, ok = impl.SameData(s, b, a)
		expectBool(t, fmt.Sprint("SameData of one more often ", b, a), same, ok, areSame(a, b), true)
	}
}

func TestSameDataExamples(t *testing.T) {
	s := schemaOf("sex2", "age3")
	a, b, c := person(3, 12, 0, 1), person(3, 11, 0, 1), person(3, 12, 1, 1)
	cases := []struct {
		x, y []impl.Record
		want bool
	}{
		{nil, nil, true},
		{nil, []impl.Record{}, true},
		{nil, []impl.Record{a}, false},
		{[]impl.Record{a}, []impl.Record{person(3, 12, 0, 1)}, true},
		{[]impl.Record{a, b, c}, []impl.Record{c, a, b}, true},
		{[]impl.Record{a, b}, []impl.Record{a, c}, false},
		{[]impl.Record{a, a, b}, []impl.Record{a, b, a}, true},
		{[]impl.Record{a, a, b}, []impl.Record{a, b, b}, false},
		{[]impl.Record{a, b}, []impl.Record{a, b, b}, false},
		{[]impl.Record{person(1, 2, 0, 0)}, []impl.Record{person(2, 1, 0, 0)}, false},
		{slices.Repeat([]impl.Record{a}, 40), slices.Repeat([]impl.Record{a}, 40), true},
		{slices.Repeat([]impl.Record{a}, 40), slices.Repeat([]impl.Record{a}, 39), false},
	}
	for _, k := range cases {
		same, ok := impl.SameData(s, k.x, k.y)
		expectBool(t, fmt.Sprint("SameData ", k.x, k.y), same, ok, k.want, true)
		same, ok = impl.SameData(s, k.y, k.x)
		expectBool(t, fmt.Sprint("SameData ", k.y, k.x), same, ok, k.want, true)
	}
}

func TestHouseholdsOfExamples(t *testing.T) {
	s := schemaOf("b2")
	home := func(area, house int, members ...int) impl.Household {
		return impl.Household{Area: area, House: house, Members: members}
	}
	cases := []struct {
		l    []impl.Record
		want []impl.Household
	}{
		{nil, nil},
		{[]impl.Record{person(0, 0, 1)}, []impl.Household{home(0, 0, 0)}},
		{[]impl.Record{person(29, 999, 1), person(0, 0, 1)}, []impl.Household{home(0, 0, 1), home(29, 999, 0)}},
		{[]impl.Record{person(3, 12, 1), person(3, 11, 0), person(3, 12, 1)}, []impl.Household{home(3, 11, 1), home(3, 12, 0, 2)}},
		{[]impl.Record{person(2, 1, 0), person(1, 2, 0), person(1, 1, 0), person(2, 1, 1), person(1, 2, 1), person(2, 1, 0)},
			[]impl.Household{home(1, 1, 2), home(1, 2, 1, 4), home(2, 1, 0, 3, 5)}},
		{[]impl.Record{person(2, 0, 0), person(10, 0, 0), person(2, 100, 0), person(2, 20, 0)},
			[]impl.Household{home(2, 0, 0), home(2, 20, 3), home(2, 100, 2), home(10, 0, 1)}},
		{[]impl.Record{person(0, 0, 1), person(0, 1, 1), person(0, 0, 0), person(1, 0, 0)},
			[]impl.Household{home(0, 0, 0, 2), home(0, 1, 1), home(1, 0, 3)}},
	}
	for _, c := range cases {
		households, ok := impl.HouseholdsOf(s, c.l)
		expectHouseholds(t, fmt.Sprint("HouseholdsOf ", c.l), households, ok, c.want, true)
	}
}

func TestHouseholdsHaveAllRecordsOnce(t *testing.T) {
	r := rand.New(rand.NewSource(34))
	for range 300 {
		s := randomSchema(r)
		l := randomData(r, s, r.Intn(41))
		households, ok := impl.HouseholdsOf(s, l)
		if !ok {
			t.Error("refused", s, l)
		}
		var all []int
		for i, h := range households {
			if len(h.Members) == 0 || i > 0 && (h.Area < households[i-1].Area || h.Area == households[i-1].Area && h.House <= households[i-1].House) {
				t.Error("order of the households", households)
			}
			for k, m := range h.Members {
				if l[m].Area != h.Area || l[m].House != h.House || k > 0 && m <= h.Members[k-1] {
					t.Error("members", h, l)
				}
			}
			all = append(all, h.Members...)
		}
		slices.Sort(all)
		for i, m := range all {
			if m != i {
				t.Error("records of households", all)
			}
		}
		if len(all) != len(l) {
			t.Error("records of households", all)
		}
	}
}

func TestReplaceValues(t *testing.T) {
	for _, s := range smallSchemas() {
		for i, values := range listsOfValues(s) {
			for _, r := range []impl.Record{farRecord(s), {Area: i % 30, House: i % 1000, Values: make([]int, len(s))}} {
				got, ok := impl.ReplaceValues(s, r, values)
				if !sameRecord(got, impl.Record{Area: r.Area, House: r.House, Values: values}) || !ok {
					t.Error("ReplaceValues", s, r, values, got, ok)
				}
			}
		}
	}
}

func TestReplaceValuesRefuses(t *testing.T) {
	for _, s := range smallSchemas() {
		for _, values := range wrongValues(s) {
			refusesValues(t, s, farRecord(s), values)
		}
		for _, r := range wrongRecords(s) {
			refusesValues(t, s, r, farRecord(s).Values)
		}
	}
}

func refusesValues(t *testing.T, s []impl.Variable, r impl.Record, values []int) {
	t.Helper()
	got, ok := impl.ReplaceValues(s, r, values)
	if !sameRecord(got, impl.Record{}) || ok {
		t.Errorf("ReplaceValues %.200s is %v %v", fmt.Sprint(s, r, values), got, ok)
	}
}

func TestGroupData(t *testing.T) {
	r := rand.New(rand.NewSource(35))
	for range 400 {
		s := randomSchema(r)
		l, g := randomData(r, s, r.Intn(41)), randomGrouping(r, s)
		checkGroupData(t, s, g, l)
	}
	for _, s := range smallSchemas() {
		checkGroupData(t, s, randomGrouping(r, s), slices.Repeat([]impl.Record{farRecord(s)}, 40))
	}
}

// checkGroupData compares with GroupValues too.
func checkGroupData(t *testing.T, s []impl.Variable, g impl.Grouping, l []impl.Record) {
	t.Helper()
	call := fmt.Sprint("GroupData ", s, g, l)
	got, ok := impl.GroupData(s, g, l)
	expectData(t, call, got, ok, groupedOf(g, l), true)
	for i, r := range got {
		values, ok := impl.GroupValues(s, g, l[i].Values)
		expectInts(t, call, r.Values, ok, values, true)
	}
	after, _ := impl.GroupSchema(s, g)
	is, ok := impl.IsData(after, got)
	expectBool(t, "IsData of "+call, is, ok, true, true)
}

func TestGroupDataExamples(t *testing.T) {
	s := schemaOf("sex2", "age3", "job5")
	g := impl.Grouping{Var: 1, Groups: []int{0, 0, 1}}
	l := []impl.Record{person(3, 12, 0, 1, 4), person(0, 0, 1, 2, 0), person(3, 12, 0, 1, 4), person(29, 999, 1, 0, 0)}
	got, ok := impl.GroupData(s, g, l)
	expectData(t, "GroupData", got, ok, []impl.Record{person(3, 12, 0, 0, 4), person(0, 0, 1, 1, 0), person(3, 12, 0, 0, 4), person(29, 999, 1, 0, 0)}, true)
	got, ok = impl.GroupData(s, impl.Grouping{Var: 0, Groups: []int{1, 0}}, l)
	expectData(t, "GroupData", got, ok, []impl.Record{person(3, 12, 1, 1, 4), person(0, 0, 0, 2, 0), person(3, 12, 1, 1, 4), person(29, 999, 0, 0, 0)}, true)
	got, ok = impl.GroupData(s, impl.Grouping{Var: 2, Groups: []int{3, 2, 0, 2, 1}}, l)
	expectData(t, "GroupData", got, ok, []impl.Record{person(3, 12, 0, 1, 1), person(0, 0, 1, 2, 3), person(3, 12, 0, 1, 1), person(29, 999, 1, 0, 3)}, true)
	got, ok = impl.GroupData(s, g, nil)
	expectData(t, "GroupData of no records", got, ok, nil, true)
}

// TestGroupDataRefusesGroupings gives records and no records.
func TestGroupDataRefusesGroupings(t *testing.T) {
	for _, s := range smallSchemas() {
		for _, g := range wrongGroupings(s) {
			for n := range 3 {
				got, ok := impl.GroupData(s, g, slices.Repeat([]impl.Record{farRecord(s)}, n))
				expectData(t, fmt.Sprint("GroupData ", s, g, n), got, ok, nil, false)
			}
		}
	}
}

func TestRemoveRecordAtIndices(t *testing.T) {
	s := schemaOf("sex2", "age3")
	r := rand.New(rand.NewSource(36))
	for n := range 41 {
		l := randomData(r, s, n)
		for i := -3; i < n+4; i++ {
			got, ok := impl.RemoveRecord(s, l, i)
			if i < 0 || i >= n {
				expectData(t, fmt.Sprint("RemoveRecord ", l, i), got, ok, nil, false)
				continue
			}
			want := append(copyData(l[:i]), l[i+1:]...)
			expectData(t, fmt.Sprint("RemoveRecord ", l, i), got, ok, want, true)
		}
		for _, i := range []int{math.MinInt, math.MinInt + 1, math.MaxInt, 1 << 32, -1 << 32, 40, 41} {
			got, ok := impl.RemoveRecord(s, l, i)
			expectData(t, fmt.Sprint("RemoveRecord ", l, i), got, ok, nil, false)
		}
	}
}

// TestWrongDataAreRefused gives wrong data to each function.
func TestWrongDataAreRefused(t *testing.T) {
	for _, s := range smallSchemas() {
		good := []impl.Record{farRecord(s)}
		g := impl.Grouping{Var: 0, Groups: make([]int, s[0].Levels)}
		g.Groups[0] = 1
		for _, l := range wrongData(s) {
			refusesData(t, s, g, good, l)
		}
	}
}

func refusesData(t *testing.T, s []impl.Variable, g impl.Grouping, good, l []impl.Record) {
	t.Helper()
	call := fmt.Sprint("a call with ", s, l)
	got, ok := impl.SortData(s, l)
	expectData(t, "SortData in "+call, got, ok, nil, false)
	for _, pair := range [][2][]impl.Record{{l, l}, {l, good}, {good, l}, {l, nil}, {nil, l}} {
		same, ok := impl.SameData(s, pair[0], pair[1])
		expectBool(t, "SameData in "+call, same, ok, false, false)
	}
	households, ok := impl.HouseholdsOf(s, l)
	expectHouseholds(t, "HouseholdsOf in "+call, households, ok, nil, false)
	got, ok = impl.GroupData(s, g, l)
	expectData(t, "GroupData in "+call, got, ok, nil, false)
	for i := range 3 {
		got, ok = impl.RemoveRecord(s, l, i)
		expectData(t, "RemoveRecord in "+call, got, ok, nil, false)
	}
	text, ok := impl.DataText(s, l)
	expectText(t, "DataText in "+call, text, ok, "", false)
}
