package tests

import (
	"fmt"
	"math/rand"
	"slices"
	"testing"

	"loop.example/g00908/impl"
)

func TestIsEdit(t *testing.T) {
	r := rand.New(rand.NewSource(51))
	for _, s := range append(smallSchemas(), largestSchema()) {
		for _, e := range append(randomEdits(r, s, 50), editOfAll(s), editOfValues(make([]int, len(s)))) {
			is, ok := impl.IsEdit(s, e)
			expectBool(t, fmt.Sprint("IsEdit ", s, e), is, ok, true, true)
		}
		for _, e := range wrongEdits(s) {
			is, ok := impl.IsEdit(s, e)
			expectBool(t, fmt.Sprint("IsEdit ", s, e), is, ok, false, true)
		}
	}
}

// TestIsEditLooksAtEachSet goes through all numbers about the bounds.
func TestIsEditLooksAtEachSet(t *testing.T) {
	s := schemaOf("sex2", "age3", "job4")
	for n := -1; n <= 5; n++ {
		for _, sets := range allNumbers(max(n, 0), -2, 4) {
			is, ok := impl.IsEdit(s, impl.Edit{Sets: sets})
			expectBool(t, fmt.Sprint("IsEdit ", sets), is, ok, editIsGood(s, impl.Edit{Sets: sets}), true)
		}
	}
	for levels := 2; levels <= 8; levels++ {
		v := impl.Variable{Name: "v", Levels: levels}
		for set := -600; set <= 600; set++ {
			for place, s := range [][]impl.Variable{{v}, {{Name: "w", Levels: 2}, v}} {
				e := impl.Edit{Sets: slices.Repeat([]int{set}, place+1)}
				is, ok := impl.IsEdit(s, e)
				expectBool(t, fmt.Sprint("IsEdit ", s, e), is, ok, editIsGood(s, e), true)
			}
		}
	}
}

// checkEdit calls the functions that need no more than an edit, with all of
// the given values.
func checkEdit(t *testing.T, s []impl.Variable, e impl.Edit, lists [][]int) {
	t.Helper()
	call := fmt.Sprint(s, e)
	is, ok := impl.IsEdit(s, e)
	expectBool(t, "IsEdit "+call, is, ok, true, true)
	involved, ok := impl.InvolvedIn(s, e)
	expectInts(t, "InvolvedIn "+call, involved, ok, involvedOf(s, e), true)
	n, ok := impl.CountFailing(s, e)
	expectInt(t, "CountFailing "+call, n, ok, len(failingOf(e)), true)
	text, ok := impl.EditText(s, e)
	expectText(t, "EditText "+call, text, ok, textOfEdit(s, e), true)
	back, ok := impl.ParseEdit(s, text)
	expectEdit(t, "ParseEdit "+text, back, ok, e, true)
	contains, ok := impl.ContainsEdit(s, e, e)
	expectBool(t, "ContainsEdit of itself "+call, contains, ok, true, true)
	meet, ok := impl.MeetEdits(s, e, e)
	expectEdit(t, "MeetEdits with itself "+call, meet, ok, e, true)
	for _, values := range lists {
		fails, ok := impl.FailsEdit(s, e, values)
		expectBool(t, fmt.Sprint("FailsEdit ", call, values), fails, ok, forbids(e, values), true)
	}
}

func TestAllEdits(t *testing.T) {
	for _, s := range [][]impl.Variable{schemaOf("b2"), schemaOf("sex2", "age3"), schemaOf("age3", "sex2"), schemaOf("z8"), schemaOf("b2", "a2", "c3"), schemaOf("b2", "age8"), schemaOf("u2", "t2", "y2", "x2", "w2", "v2")} {
		lists := listsOfValues(s)
		for _, e := range allEdits(s) {
			checkEdit(t, s, e, lists)
		}
	}
}

func TestRandomEdits(t *testing.T) {
	r := rand.New(rand.NewSource(52))
	for range 60 {
		s := randomSchema(r)
		for len(s) > 5 {
			s = randomSchema(r)
		}
		for range 5 {
			var lists [][]int
			for range 50 {
				lists = append(lists, randomValues(r, s))
			}
			checkEdit(t, s, randomEdit(r, s), lists)
		}
	}
}

func TestEditExample(t *testing.T) {
	s, e := schemaOf("sex2", "age3"), edit(1, 6)
	text, ok := impl.EditText(s, e)
	expectText(t, "EditText", text, ok, "sex=0 age=1,2", true)
	fails, ok := impl.FailsEdit(s, e, []int{0, 2})
	expectBool(t, "FailsEdit 0 2", fails, ok, true, true)
	fails, ok = impl.FailsEdit(s, e, []int{1, 2})
	expectBool(t, "FailsEdit 1 2", fails, ok, false, true)
	n, ok := impl.CountFailing(s, e)
	expectInt(t, "CountFailing", n, ok, 2, true)
	n, ok = impl.CountPassing(s, []impl.Edit{e})
	expectInt(t, "CountPassing", n, ok, 4, true)
	first, ok := impl.FirstPassing(s, []impl.Edit{e})
	expectInts(t, "FirstPassing", first, ok, []int{0, 0}, true)
	age, ok := impl.ParseEdit(s, "age=2")
	expectEdit(t, "ParseEdit", age, ok, edit(3, 4), true)
	meet, ok := impl.MeetEdits(s, e, age)
	expectEdit(t, "MeetEdits", meet, ok, edit(1, 4), true)
	text, ok = impl.EditText(s, meet)
	expectText(t, "EditText", text, ok, "sex=0 age=2", true)
}

// TestNoVariableInvolved has the edit that all values fail.
func TestNoVariableInvolved(t *testing.T) {
	for _, s := range smallSchemas() {
		e, lists := editOfAll(s), listsOfValues(s)
		checkEdit(t, s, e, lists)
		involved, ok := impl.InvolvedIn(s, e)
		expectInts(t, "InvolvedIn", involved, ok, nil, true)
		text, ok := impl.EditText(s, e)
		expectText(t, "EditText", text, ok, "all", true)
		n, ok := impl.CountFailing(s, e)
		expectInt(t, "CountFailing", n, ok, len(lists), true)
	}
	s := largestSchema()
	n, ok := impl.CountFailing(s, editOfAll(s))
	expectInt(t, "CountFailing", n, ok, 262144, true)
	n, ok = impl.CountFailing(s, edit(255, 255, 127, 255, 255, 3))
	expectInt(t, "CountFailing", n, ok, 8*8*7*8*8*2, true)
	n, ok = impl.CountFailing(s, edit(128, 64, 32, 16, 8, 4))
	expectInt(t, "CountFailing", n, ok, 1, true)
}

func TestInvolvedInExamples(t *testing.T) {
	s := schemaOf("sex2", "age3", "job8", "b2")
	for _, c := range []struct {
		e    impl.Edit
		want []int
	}{
		{edit(3, 7, 255, 3), nil},
		{edit(1, 7, 255, 3), []int{0}},
		{edit(2, 7, 255, 3), []int{0}},
		{edit(3, 3, 255, 3), []int{1}},
		{edit(3, 7, 127, 3), []int{2}},
		{edit(3, 7, 254, 1), []int{2, 3}},
		{edit(1, 7, 3, 3), []int{0, 2}},
		{edit(1, 3, 7, 2), []int{0, 1, 2, 3}},
	} {
		involved, ok := impl.InvolvedIn(s, c.e)
		expectInts(t, fmt.Sprint("InvolvedIn ", c.e), involved, ok, c.want, true)
	}
}

// checkPair compares what is said of two edits with the values that fail them.
func checkPair(t *testing.T, s []impl.Variable, e, f impl.Edit) {
	t.Helper()
	contains, ok := impl.ContainsEdit(s, e, f)
	expectBool(t, fmt.Sprint("ContainsEdit ", s, e, f), contains, ok, containsOf(e, f), true)
	want, wantOK := meetOfEdits(e, f)
	meet, ok := impl.MeetEdits(s, e, f)
	expectEdit(t, fmt.Sprint("MeetEdits ", s, e, f), meet, ok, want, wantOK)
}

func TestAllPairsOfEdits(t *testing.T) {
	for _, s := range [][]impl.Variable{schemaOf("b2"), schemaOf("sex2", "age3"), schemaOf("m4"), schemaOf("b2", "a2", "c3")} {
		all := allEdits(s)
		for _, e := range all {
			for _, f := range all {
				checkPair(t, s, e, f)
			}
		}
	}
}

func TestRandomPairsOfEdits(t *testing.T) {
	r := rand.New(rand.NewSource(53))
	for range 300 {
		s := randomSchema(r)
		for len(s) > 4 {
			s = randomSchema(r)
		}
		e, f := randomEdit(r, s), randomEdit(r, s)
		checkPair(t, s, e, f)
		checkPair(t, s, e, editOfAll(s))
		checkPair(t, s, editOfAll(s), f)
		if meet, ok := impl.MeetEdits(s, e, f); ok {
			checkPair(t, s, e, meet)
			checkPair(t, s, meet, f)
		}
	}
}

// TestMeetEditsFailWhatFailsBoth says promise 5 with the functions alone.
func TestMeetEditsFailWhatFailsBoth(t *testing.T) {
	r := rand.New(rand.NewSource(54))
	for range 400 {
		s := randomSchema(r)
		e, f := randomEdit(r, s), randomEdit(r, s)
		meet, exists := impl.MeetEdits(s, e, f)
		for range 100 {
			values := randomValues(r, s)
			failsE, _ := impl.FailsEdit(s, e, values)
			failsF, _ := impl.FailsEdit(s, f, values)
			if !exists && failsE && failsF {
				t.Error("values fail both, but there is no meet", s, e, f, values)
			}
			fails, ok := impl.FailsEdit(s, meet, values)
			expectBool(t, fmt.Sprint("FailsEdit of MeetEdits ", s, e, f, values), fails, ok, failsE && failsF, exists)
		}
		if !exists {
			continue
		}
		for _, larger := range []impl.Edit{e, f} {
			contains, ok := impl.ContainsEdit(s, larger, meet)
			expectBool(t, fmt.Sprint("ContainsEdit of MeetEdits ", s, larger, meet), contains, ok, true, true)
		}
	}
}

func TestPairExamples(t *testing.T) {
	s := schemaOf("sex2", "age3", "b2")
	for _, c := range []struct {
		e, f           impl.Edit
		contains, back bool
		meet           impl.Edit
	}{
		{edit(1, 6, 3), edit(1, 6, 3), true, true, edit(1, 6, 3)},
		{edit(1, 6, 3), edit(1, 4, 2), true, false, edit(1, 4, 2)},
		{edit(1, 6, 3), edit(1, 7, 3), false, true, edit(1, 6, 3)},
		{edit(1, 6, 3), edit(3, 4, 3), false, false, edit(1, 4, 3)},
		{edit(1, 6, 3), edit(3, 3, 1), false, false, edit(1, 2, 1)},
		{edit(1, 6, 3), edit(2, 6, 3), false, false, edit()},
		{edit(1, 6, 3), edit(1, 1, 3), false, false, edit()},
		{edit(1, 6, 2), edit(1, 6, 1), false, false, edit()},
		{edit(2, 1, 2), edit(1, 6, 1), false, false, edit()},
		{edit(3, 7, 3), edit(2, 4, 1), true, false, edit(2, 4, 1)},
		{edit(3, 7, 3), edit(3, 7, 3), true, true, edit(3, 7, 3)},
	} {
		contains, ok := impl.ContainsEdit(s, c.e, c.f)
		expectBool(t, fmt.Sprint("ContainsEdit ", c.e, c.f), contains, ok, c.contains, true)
		contains, ok = impl.ContainsEdit(s, c.f, c.e)
		expectBool(t, fmt.Sprint("ContainsEdit ", c.f, c.e), contains, ok, c.back, true)
		meet, ok := impl.MeetEdits(s, c.e, c.f)
		expectEdit(t, fmt.Sprint("MeetEdits ", c.e, c.f), meet, ok, c.meet, c.meet.Sets != nil)
		meet, ok = impl.MeetEdits(s, c.f, c.e)
		expectEdit(t, fmt.Sprint("MeetEdits ", c.f, c.e), meet, ok, c.meet, c.meet.Sets != nil)
	}
}

// TestWrongEditsAreRefused gives wrong edits to each function.
func TestWrongEditsAreRefused(t *testing.T) {
	for _, s := range smallSchemas() {
		values := make([]int, len(s))
		for _, e := range wrongEdits(s) {
			refusesEdit(t, s, e, editOfAll(s), values)
		}
	}
}

// refusesEdit calls the functions with an edit or with a schema that is not
// valid.
func refusesEdit(t *testing.T, s []impl.Variable, e, good impl.Edit, values []int) {
	t.Helper()
	call := fmt.Sprint("a call with ", s, e, values)
	fails, ok := impl.FailsEdit(s, e, values)
	expectBool(t, "FailsEdit in "+call, fails, ok, false, false)
	involved, ok := impl.InvolvedIn(s, e)
	expectInts(t, "InvolvedIn in "+call, involved, ok, nil, false)
	n, ok := impl.CountFailing(s, e)
	expectInt(t, "CountFailing in "+call, n, ok, 0, false)
	text, ok := impl.EditText(s, e)
	expectText(t, "EditText in "+call, text, ok, "", false)
	for _, pair := range [][2]impl.Edit{{e, e}, {e, good}, {good, e}} {
		contains, ok := impl.ContainsEdit(s, pair[0], pair[1])
		expectBool(t, "ContainsEdit in "+call, contains, ok, false, false)
		meet, ok := impl.MeetEdits(s, pair[0], pair[1])
		expectEdit(t, "MeetEdits in "+call, meet, ok, impl.Edit{}, false)
	}
}

// TestWrongValuesFailNoEdit gives no values, and values of other lengths and
// out of their range.
func TestWrongValuesFailNoEdit(t *testing.T) {
	for _, s := range smallSchemas() {
		for _, values := range wrongValues(s) {
			for _, e := range []impl.Edit{editOfAll(s), editOfValues(make([]int, len(s)))} {
				fails, ok := impl.FailsEdit(s, e, values)
				expectBool(t, fmt.Sprint("FailsEdit ", s, e, values), fails, ok, false, false)
				for n := range 3 {
					failed, ok := impl.FailedEdits(s, slices.Repeat([]impl.Edit{e}, n), values)
					expectInts(t, fmt.Sprint("FailedEdits ", s, e, n, values), failed, ok, nil, false)
				}
			}
		}
	}
}
