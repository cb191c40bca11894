package tests

import (
	"fmt"
	"slices"
	"strings"
	"testing"

	"loop.example/g00908/impl"
)

func TestChapter2RefusesInvalidSchemas(t *testing.T) {
	for _, s := range invalidSchemas() {
		name := ""
		if len(s) > 0 {
			name = s[0].Name
		}
		groupings := []impl.Grouping{{}, {Var: 0, Groups: []int{0, 1}}, {Var: 0, Groups: []int{0, 1, 1}}, {Var: -1, Groups: []int{0, 1}}, {Var: len(s), Groups: []int{0, 1}}}
		for _, values := range [][]int{nil, make([]int, len(s)), make([]int, len(s)+1), extremeInts()} {
			refusesSchema(t, s, name, values, groupings)
		}
	}
}

func refusesSchema(t *testing.T, s []impl.Variable, name string, values []int, groupings []impl.Grouping) {
	t.Helper()
	call := fmt.Sprintf("a call with %.80s and %v", fmt.Sprint(s), values)
	for _, name := range []string{name, "", "sex", "a"} {
		i, ok := impl.VariableIndex(s, name)
		expectInt(t, call, i, ok, 0, false)
	}
	n, ok := impl.CombinationCount(s)
	expectInt(t, call, n, ok, 0, false)
	n, ok = impl.CombinationIndex(s, values)
	expectInt(t, call, n, ok, 0, false)
	n, ok = impl.ValueDistance(s, values, values)
	expectInt(t, call, n, ok, 0, false)
	for _, i := range extremeInts() {
		at, ok := impl.CombinationAt(s, i)
		expectInts(t, call, at, ok, nil, false)
	}
	for _, g := range groupings {
		if is, ok := impl.IsGrouping(s, g); is || ok {
			t.Error(call, "IsGrouping", g, is, ok)
		}
		grouped, ok := impl.GroupSchema(s, g)
		expectSchema(t, call, grouped, ok, nil, false)
		after, ok := impl.GroupValues(s, g, values)
		expectInts(t, call, after, ok, nil, false)
	}
	if text, ok := impl.SchemaText(s); text != "" || ok {
		t.Error(call, "SchemaText", text, ok)
	}
}

// TestChapter2AcceptsAllNumbers fails also by the panic of a call.
func TestChapter2AcceptsAllNumbers(t *testing.T) {
	for _, a := range extremeInts() {
		for _, b := range extremeInts() {
			s := []impl.Variable{{Name: "b", Levels: a}, {Name: "a", Levels: b}}
			if impl.IsSchema(s) != schemaIsValid(s) {
				t.Error("IsSchema", s)
			}
			impl.CombinationAt(s, a)
			impl.CombinationIndex(s, []int{a, b})
			impl.ParseSchema(fmt.Sprintf("b:%d,a:%d", a, b))
			acceptsNumbersOf(t, schemaOf("sex2", "age3"), a, b)
			acceptsNumbersOf(t, schemaOf("z8", "y2"), a, b)
		}
	}
}

// acceptsNumbersOf calls the functions with a schema of two variables and two
// numbers.
func acceptsNumbersOf(t *testing.T, s []impl.Variable, a, b int) {
	t.Helper()
	values := []int{a, b}
	good := 0 <= a && a < s[0].Levels && 0 <= b && b < s[1].Levels
	_, indexOK := impl.CombinationIndex(s, values)
	_, distanceOK := impl.ValueDistance(s, values, []int{1, 1})
	_, otherOK := impl.ValueDistance(s, []int{0, 1}, values)
	_, atOK := impl.CombinationAt(s, a)
	if indexOK != good || distanceOK != good || otherOK != good || atOK != (0 <= a && a < s[0].Levels*s[1].Levels) {
		t.Error("accepted or refused", s, a, b, indexOK, distanceOK, otherOK, atOK)
	}
	g := impl.Grouping{Var: a, Groups: []int{b, 1 - b}}
	wanted := 0 <= a && a < 2 && s[a].Levels == 2 && (b == 0 || b == 1)
	is, isOK := impl.IsGrouping(s, g)
	_, schemaOK := impl.GroupSchema(s, g)
	_, valuesOK := impl.GroupValues(s, g, []int{1, 1})
	if is != wanted || !isOK || schemaOK != wanted || valuesOK != wanted {
		t.Error("accepted or refused", s, g, is, isOK, schemaOK, valuesOK)
	}
}

// callAll calls every function of chapter 2 with the arguments.
func callAll(s []impl.Variable, g impl.Grouping, a, b []int) {
	impl.IsSchema(s)
	impl.VariableIndex(s, "age")
	impl.CombinationCount(s)
	impl.CombinationIndex(s, a)
	impl.CombinationAt(s, 3)
	impl.ValueDistance(s, a, b)
	impl.IsGrouping(s, g)
	impl.GroupSchema(s, g)
	impl.GroupValues(s, g, a)
	impl.SchemaText(s)
}

// TestChapter2LeavesItsArguments looks at the elements behind the arguments too.
func TestChapter2LeavesItsArguments(t *testing.T) {
	for _, all := range append(invalidSchemas(), schemaOf("zz3", "age4", "b2", "end2"), schemaOf("age4", "age4", "end2")) {
		if len(all) == 0 {
			continue
		}
		for _, groups := range [][]int{{1, 0, 1, 1, 99}, {2, 1, 0, 3, -5}, {0, 0, 0, 0, 7}} {
			a, b := []int{2, 3, 1, 77}, []int{0, 0, 0, 88}
			s, g := all[:len(all)-1], impl.Grouping{Var: 1, Groups: groups[:4]}
			beforeAll, beforeGroups := slices.Clone(all), slices.Clone(groups)
			callAll(s, g, a[:3], b[:3])
			if !slices.Equal(all, beforeAll) || !slices.Equal(groups, beforeGroups) || !slices.Equal(a, []int{2, 3, 1, 77}) || !slices.Equal(b, []int{0, 0, 0, 88}) {
				t.Error("changed", all, groups, a, b)
			}
		}
	}
}

func TestChapter2DoesNotReadSpareCapacity(t *testing.T) {
	all := schemaOf("sex2", "age3", "b2", "b2")
	s := all[:2]
	if !impl.IsSchema(s) || !impl.IsSchema(all[:3]) || impl.IsSchema(all) || impl.IsSchema(all[:0]) {
		t.Error("IsSchema of beginnings")
	}
	i, ok := impl.VariableIndex(s, "b")
	expectInt(t, "VariableIndex", i, ok, 0, false)
	n, ok := impl.CombinationCount(s)
	expectInt(t, "CombinationCount", n, ok, 6, true)
	values := []int{1, 2, 1, -1}
	i, ok = impl.CombinationIndex(s, values[:2])
	expectInt(t, "CombinationIndex", i, ok, 5, true)
	i, ok = impl.CombinationIndex(all[:3], values[:2])
	expectInt(t, "CombinationIndex of too few values", i, ok, 0, false)
	groups := []int{0, 0, 1, 5}
	after, ok := impl.GroupValues(s, impl.Grouping{Var: 1, Groups: groups[:3]}, values[:2])
	expectInts(t, "GroupValues", after, ok, []int{1, 1}, true)
	if is, ok := impl.IsGrouping(s, impl.Grouping{Var: 1, Groups: groups[:2]}); is || !ok {
		t.Error("IsGrouping of too few numbers", is, ok)
	}
	if text, ok := impl.SchemaText(s); text != "sex:2,age:3" || !ok {
		t.Error("SchemaText", text, ok)
	}
}

// clobber overwrites a list and what its capacity holds behind it.
func clobber[T any](l []T, with T) {
	l = l[:cap(l)]
	for i := range l {
		l[i] = with
	}
}

// TestChapter2ResultsAreNew overwrites results, and arguments after a call.
func TestChapter2ResultsAreNew(t *testing.T) {
	s, groups, values := schemaOf("zz3", "age4", "b2"), []int{1, 0, 1, 2}, []int{2, 3, 1}
	same, groupsBefore := slices.Clone(s), slices.Clone(groups)
	g := impl.Grouping{Var: 1, Groups: groups}
	bad := impl.Variable{Name: "bad", Levels: -1}
	for range 3 {
		grouped, ok := impl.GroupSchema(s, g)
		expectSchema(t, "GroupSchema", grouped, ok, schemaOf("zz3", "age3", "b2"), true)
		after, ok := impl.GroupValues(s, g, values)
		expectInts(t, "GroupValues", after, ok, []int{2, 2, 1}, true)
		at, ok := impl.CombinationAt(s, 23)
		expectInts(t, "CombinationAt", at, ok, []int{2, 3, 1}, true)
		read, ok := impl.ParseSchema("zz:3,age:4,b:2")
		expectSchema(t, "ParseSchema", read, ok, s, true)
		clobber(grouped, bad)
		clobber(read, bad)
		clobber(after, -1)
		clobber(at, -1)
		if !slices.Equal(s, same) || !slices.Equal(groups, groupsBefore) || !slices.Equal(values, []int{2, 3, 1}) {
			t.Error("a result shares memory with an argument", s, groups, values)
		}
	}
	grouped, _ := impl.GroupSchema(s, g)
	after, _ := impl.GroupValues(s, g, values)
	clobber(s, bad)
	clobber(groups, -1)
	clobber(values, -1)
	expectSchema(t, "GroupSchema kept", grouped, true, schemaOf("zz3", "age3", "b2"), true)
	expectInts(t, "GroupValues kept", after, true, []int{2, 2, 1}, true)
}

// TestGroupsThatChangeNothingGiveNewLists groups each level by itself.
func TestGroupsThatChangeNothingGiveNewLists(t *testing.T) {
	s, values := schemaOf("b2", "a3"), []int{1, 2}
	g := impl.Grouping{Var: 1, Groups: []int{0, 1, 2}}
	grouped, _ := impl.GroupSchema(s, g)
	after, _ := impl.GroupValues(s, g, values)
	clobber(grouped, impl.Variable{})
	clobber(after, -1)
	if !slices.Equal(s, schemaOf("b2", "a3")) || !slices.Equal(values, []int{1, 2}) || !slices.Equal(g.Groups, []int{0, 1, 2}) {
		t.Error("a result shares memory with an argument", s, values, g)
	}
}

func TestChapter2KeepsNoState(t *testing.T) {
	s := schemaOf("sex2", "age3")
	for range 50 {
		impl.ParseSchema("age:2,sex:8")
		impl.GroupSchema(s, impl.Grouping{Var: 1, Groups: []int{0, 0, 1}})
		impl.IsSchema(invalidSchemas()[3])
		impl.VariableIndex(schemaOf("age2", "sex3"), "age")
		i, ok := impl.VariableIndex(s, "age")
		expectInt(t, "VariableIndex again", i, ok, 1, true)
		n, ok := impl.CombinationCount(s)
		expectInt(t, "CombinationCount again", n, ok, 6, true)
		at, ok := impl.CombinationAt(s, 5)
		expectInts(t, "CombinationAt again", at, ok, []int{1, 2}, true)
		text, ok := impl.SchemaText(s)
		if text != "sex:2,age:3" || !ok {
			t.Error("SchemaText again", text, ok)
		}
	}
}

// TestMapOrderIsNotSeen repeats calls that would differ with the order in which
// a map is ranged over.
func TestMapOrderIsNotSeen(t *testing.T) {
	s := schemaOf("f2", "e3", "a4", "b5", "d6", "c7")
	text := textOfSchema(s)
	for _, place := range []int{0, 2, 5} {
		bad := slices.Clone(s)
		bad[place].Levels = 9
		for range 200 {
			if !impl.IsSchema(s) || impl.IsSchema(bad) {
				t.Fatal("IsSchema", s, bad)
			}
			got, ok := impl.SchemaText(s)
			if got != text || !ok {
				t.Fatal("SchemaText", got, ok)
			}
			back, ok := impl.ParseSchema(strings.Clone(text))
			expectSchema(t, "ParseSchema "+text, back, ok, s, true)
			at, ok := impl.CombinationAt(s, 5039)
			expectInts(t, "CombinationAt", at, ok, []int{1, 2, 3, 4, 5, 6}, true)
			i, ok := impl.CombinationIndex(s, []int{1, 0, 0, 0, 0, 1})
			expectInt(t, "CombinationIndex", i, ok, 2521, true)
		}
	}
}
