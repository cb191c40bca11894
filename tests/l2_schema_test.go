package tests

import (
	"fmt"
	"math"
	"math/rand"
	"slices"
	"strings"
	"testing"

	"loop.example/g00908/impl"
)

func TestIsSchema(t *testing.T) {
	for _, s := range append(smallSchemas(), largestSchema()) {
		if !impl.IsSchema(s) {
			t.Error("refused", s)
		}
	}
	for _, s := range invalidSchemas() {
		if impl.IsSchema(s) {
			t.Errorf("accepted %.80s", fmt.Sprint(s))
		}
	}
	for levels := -20; levels <= 20; levels++ {
		s := []impl.Variable{{Name: "b", Levels: 2}, {Name: "a", Levels: levels}}
		if impl.IsSchema(s) != (levels >= 2 && levels <= 8) {
			t.Error("wrong about", s)
		}
	}
}

func TestIsSchemaLooksAtEachLetter(t *testing.T) {
	for length := 1; length <= 9; length++ {
		for place := range length {
			for c := range 256 {
				name := []byte(strings.Repeat("m", length))
				name[place] = byte(c)
				s := []impl.Variable{{Name: "x", Levels: 2}, {Name: string(name), Levels: 2}}
				if impl.IsSchema(s) != schemaIsValid(s) {
					t.Errorf("wrong about %v", s)
				}
			}
		}
	}
}

func TestIsSchemaComparesAllNames(t *testing.T) {
	for n := 2; n <= 6; n++ {
		for i := range n {
			for k := range i {
				s := schemaOf("f2", "a3", "e4", "b5", "d6", "c7")[:n]
				if !impl.IsSchema(s) {
					t.Error("refused", s)
				}
				s[i].Name = s[k].Name
				if impl.IsSchema(s) {
					t.Error("accepted", s)
				}
			}
		}
	}
}

func TestVariableIndex(t *testing.T) {
	for _, s := range append(smallSchemas(), largestSchema()) {
		for want, v := range s {
			i, ok := impl.VariableIndex(s, v.Name)
			expectInt(t, fmt.Sprint("VariableIndex ", s, v.Name), i, ok, want, true)
		}
		for _, name := range []string{"", "no", "A", "abcdefghi", "sex:2", "sex ", " sex", "s", "sexx", "ag", "0", "\x00", strings.Repeat("z", 9), strings.Repeat("a", 5000)} {
			i, ok := impl.VariableIndex(s, name)
			expectInt(t, fmt.Sprintf("VariableIndex %v %.40q", s, name), i, ok, 0, false)
		}
	}
}

func TestCombinationCount(t *testing.T) {
	for _, s := range smallSchemas() {
		n, ok := impl.CombinationCount(s)
		expectInt(t, fmt.Sprint("CombinationCount ", s), n, ok, len(listsOfValues(s)), true)
	}
	n, ok := impl.CombinationCount(largestSchema())
	expectInt(t, "CombinationCount of the largest", n, ok, 262144, true)
	n, ok = impl.CombinationCount(schemaOf("sex2", "age3"))
	expectInt(t, "CombinationCount of two variables", n, ok, 6, true)
	n, ok = impl.CombinationCount(schemaOf("f2", "e3", "d4", "c5", "b6", "a7"))
	expectInt(t, "CombinationCount of six variables", n, ok, 5040, true)
}

// TestCombinationsAreInOrder counts through all lists of values.
func TestCombinationsAreInOrder(t *testing.T) {
	for _, s := range smallSchemas() {
		for want, values := range listsOfValues(s) {
			i, ok := impl.CombinationIndex(s, values)
			expectInt(t, fmt.Sprint("CombinationIndex ", s, values), i, ok, want, true)
			got, ok := impl.CombinationAt(s, want)
			expectInts(t, fmt.Sprint("CombinationAt ", s, want), got, ok, values, true)
		}
	}
}

func TestCombinationExamples(t *testing.T) {
	cases := []struct {
		s      []impl.Variable
		values []int
		index  int
	}{
		{schemaOf("sex2", "age3"), []int{0, 0}, 0},
		{schemaOf("sex2", "age3"), []int{0, 2}, 2},
		{schemaOf("sex2", "age3"), []int{1, 0}, 3},
		{schemaOf("sex2", "age3"), []int{1, 2}, 5},
		{schemaOf("age3", "sex2"), []int{1, 0}, 2},
		{schemaOf("age3", "sex2"), []int{2, 1}, 5},
		{largestSchema(), []int{0, 0, 0, 0, 0, 0}, 0},
		{largestSchema(), []int{0, 0, 0, 0, 0, 1}, 1},
		{largestSchema(), []int{1, 2, 3, 4, 5, 6}, 0o123456},
		{largestSchema(), []int{6, 5, 4, 3, 2, 1}, 0o654321},
		{largestSchema(), []int{7, 7, 7, 7, 7, 6}, 262142},
		{largestSchema(), []int{7, 7, 7, 7, 7, 7}, 262143},
	}
	for _, c := range cases {
		i, ok := impl.CombinationIndex(c.s, c.values)
		expectInt(t, fmt.Sprint("CombinationIndex ", c.s, c.values), i, ok, c.index, true)
		values, ok := impl.CombinationAt(c.s, c.index)
		expectInts(t, fmt.Sprint("CombinationAt ", c.s, c.index), values, ok, c.values, true)
	}
}

func TestCombinationsOfRandomSchemas(t *testing.T) {
	r := rand.New(rand.NewSource(20))
	for range 2000 {
		s := randomSchema(r)
		values := randomValues(r, s)
		count, ok := impl.CombinationCount(s)
		i, indexOK := impl.CombinationIndex(s, values)
		if !ok || !indexOK || i < 0 || i >= count {
			t.Error("CombinationIndex", s, values, i, count, ok, indexOK)
		}
		back, ok := impl.CombinationAt(s, i)
		expectInts(t, fmt.Sprint("CombinationAt ", s, i), back, ok, values, true)
		other := randomValues(r, s)
		k, ok := impl.CombinationIndex(s, other)
		if !ok || slices.Compare(values, other) != sign(i-k) {
			t.Error("order of", s, values, other, i, k, ok)
		}
	}
}

func sign(n int) int {
	switch {
	case n < 0:
		return -1
	case n > 0:
		return 1
	}
	return 0
}

func TestCombinationAtRefusesIndices(t *testing.T) {
	for _, s := range append(smallSchemas(), largestSchema()) {
		count := 1
		for _, v := range s {
			count *= v.Levels
		}
		last, ok := impl.CombinationAt(s, count-1)
		if !ok || len(last) != len(s) {
			t.Error("CombinationAt the last index", s, last, ok)
		}
		for _, i := range []int{-1, -2, -count, count, count + 1, 2 * count, 262144, math.MaxInt, math.MinInt, math.MinInt + 1, 1 << 32} {
			values, ok := impl.CombinationAt(s, i)
			expectInts(t, fmt.Sprint("CombinationAt ", s, i), values, ok, nil, false)
		}
	}
}

func TestWrongValuesAreRefused(t *testing.T) {
	for _, s := range append(smallSchemas(), largestSchema()) {
		good := make([]int, len(s))
		all := make([]int, s[0].Levels)
		for x := range all {
			all[x] = x
		}
		for _, bad := range wrongValues(s) {
			i, ok := impl.CombinationIndex(s, bad)
			expectInt(t, fmt.Sprint("CombinationIndex ", s, bad), i, ok, 0, false)
			n, ok := impl.ValueDistance(s, good, bad)
			expectInt(t, fmt.Sprint("ValueDistance ", s, good, bad), n, ok, 0, false)
			n, ok = impl.ValueDistance(s, bad, good)
			expectInt(t, fmt.Sprint("ValueDistance ", s, bad, good), n, ok, 0, false)
			n, ok = impl.ValueDistance(s, bad, bad)
			expectInt(t, fmt.Sprint("ValueDistance ", s, bad, bad), n, ok, 0, false)
			values, ok := impl.GroupValues(s, impl.Grouping{Var: 0, Groups: all}, bad)
			expectInts(t, fmt.Sprint("GroupValues ", s, all, bad), values, ok, nil, false)
		}
	}
}

func TestGreatestValuesAreAccepted(t *testing.T) {
	for _, s := range append(smallSchemas(), largestSchema()) {
		for i, v := range s {
			values := make([]int, len(s))
			values[i] = v.Levels - 1
			rest := 1
			for _, w := range s[i+1:] {
				rest *= w.Levels
			}
			got, ok := impl.CombinationIndex(s, values)
			expectInt(t, fmt.Sprint("CombinationIndex ", s, values), got, ok, (v.Levels-1)*rest, true)
			n, ok := impl.ValueDistance(s, values, make([]int, len(s)))
			expectInt(t, fmt.Sprint("ValueDistance ", s, values), n, ok, 1, true)
		}
	}
}

func TestValueDistance(t *testing.T) {
	for _, s := range [][]impl.Variable{schemaOf("z8"), schemaOf("sex2", "age3"), schemaOf("zz3", "a2", "m4"), schemaOf("u2", "t2", "y2", "x2", "w2", "v2")} {
		for _, a := range listsOfValues(s) {
			for _, b := range listsOfValues(s) {
				want := 0
				for i := range s {
					if a[i] != b[i] {
						want++
					}
				}
				n, ok := impl.ValueDistance(s, a, b)
				expectInt(t, fmt.Sprint("ValueDistance ", s, a, b), n, ok, want, true)
			}
		}
	}
	n, ok := impl.ValueDistance(largestSchema(), []int{0, 7, 0, 7, 0, 7}, []int{7, 0, 7, 0, 7, 0})
	expectInt(t, "ValueDistance of six", n, ok, 6, true)
	n, ok = impl.ValueDistance(largestSchema(), []int{1, 2, 3, 4, 5, 6}, []int{1, 3, 3, 5, 5, 7})
	expectInt(t, "ValueDistance of three", n, ok, 3, true)
}

func TestIsGrouping(t *testing.T) {
	for levels := 2; levels <= 5; levels++ {
		s := []impl.Variable{{Name: "b", Levels: 3}, {Name: "a", Levels: levels}, {Name: "c", Levels: 8}}
		for _, groups := range allNumbers(levels, -1, levels) {
			is, ok := impl.IsGrouping(s, impl.Grouping{Var: 1, Groups: groups})
			if is != groupsAreGood(groups) || !ok {
				t.Error("IsGrouping", s, groups, is, ok)
			}
		}
	}
	s := schemaOf("age8")
	for _, groups := range allNumbers(8, 0, 2) {
		is, ok := impl.IsGrouping(s, impl.Grouping{Var: 0, Groups: groups})
		if is != groupsAreGood(groups) || !ok {
			t.Error("IsGrouping", s, groups, is, ok)
		}
	}
}

func TestWrongGroupingsAreRefused(t *testing.T) {
	for _, s := range append(smallSchemas(), largestSchema()) {
		for _, g := range wrongGroupings(s) {
			if is, ok := impl.IsGrouping(s, g); is || !ok {
				t.Error("IsGrouping", s, g, is, ok)
			}
			grouped, ok := impl.GroupSchema(s, g)
			expectSchema(t, fmt.Sprint("GroupSchema ", s, g), grouped, ok, nil, false)
			values, ok := impl.GroupValues(s, g, make([]int, len(s)))
			expectInts(t, fmt.Sprint("GroupValues ", s, g), values, ok, nil, false)
		}
	}
}

func TestGroupingExamples(t *testing.T) {
	cases := []struct {
		s             []impl.Variable
		g             impl.Grouping
		grouped       []impl.Variable
		values, after []int
	}{
		{schemaOf("sex2", "age3"), impl.Grouping{Var: 1, Groups: []int{0, 0, 1}}, schemaOf("sex2", "age2"), []int{1, 2}, []int{1, 1}},
		{schemaOf("sex2", "age3"), impl.Grouping{Var: 1, Groups: []int{0, 0, 1}}, schemaOf("sex2", "age2"), []int{0, 1}, []int{0, 0}},
		{schemaOf("sex2", "age3"), impl.Grouping{Var: 1, Groups: []int{2, 0, 1}}, schemaOf("sex2", "age3"), []int{1, 0}, []int{1, 2}},
		{schemaOf("sex2", "age3"), impl.Grouping{Var: 0, Groups: []int{1, 0}}, schemaOf("sex2", "age3"), []int{0, 2}, []int{1, 2}},
		{schemaOf("age8"), impl.Grouping{Var: 0, Groups: []int{0, 1, 2, 3, 4, 5, 6, 7}}, schemaOf("age8"), []int{7}, []int{7}},
		{schemaOf("age8"), impl.Grouping{Var: 0, Groups: []int{1, 1, 1, 1, 1, 1, 1, 0}}, schemaOf("age2"), []int{6}, []int{1}},
		{schemaOf("age8"), impl.Grouping{Var: 0, Groups: []int{6, 5, 4, 3, 2, 1, 0, 6}}, schemaOf("age7"), []int{7}, []int{6}},
		{schemaOf("z3", "a2", "m4"), impl.Grouping{Var: 2, Groups: []int{2, 1, 0, 2}}, schemaOf("z3", "a2", "m3"), []int{2, 1, 0}, []int{2, 1, 2}},
		{schemaOf("z3", "a2", "m4"), impl.Grouping{Var: 0, Groups: []int{1, 0, 1}}, schemaOf("z2", "a2", "m4"), []int{2, 1, 3}, []int{1, 1, 3}},
	}
	for _, c := range cases {
		if is, ok := impl.IsGrouping(c.s, c.g); !is || !ok {
			t.Error("IsGrouping", c.s, c.g, is, ok)
		}
		grouped, ok := impl.GroupSchema(c.s, c.g)
		expectSchema(t, fmt.Sprint("GroupSchema ", c.s, c.g), grouped, ok, c.grouped, true)
		values, ok := impl.GroupValues(c.s, c.g, c.values)
		expectInts(t, fmt.Sprint("GroupValues ", c.s, c.g, c.values), values, ok, c.after, true)
	}
}

// groupsOf returns all groups of a variable, or some if there are too many.
func groupsOf(levels int) [][]int {
	if levels > 5 {
		all := make([]int, levels)
		two, back := make([]int, levels), make([]int, levels)
		for x := range all {
			all[x], back[x], two[x] = x, levels-1-x, x%2
		}
		return [][]int{all, two, back}
	}
	var good [][]int
	for _, groups := range allNumbers(levels, 0, levels-1) {
		if groupsAreGood(groups) {
			good = append(good, groups)
		}
	}
	return good
}

func TestGroupedValuesSuitTheGroupedSchema(t *testing.T) {
	for _, s := range [][]impl.Variable{schemaOf("z8"), schemaOf("sex2", "age3"), schemaOf("zz3", "a2", "m4"), schemaOf("m5", "z2", "a3")} {
		for i, v := range s {
			for _, groups := range groupsOf(v.Levels) {
				checkGrouping(t, s, impl.Grouping{Var: i, Groups: groups}, listsOfValues(s))
			}
		}
	}
	r := rand.New(rand.NewSource(21))
	for range 1000 {
		s := randomSchema(r)
		checkGrouping(t, s, randomGrouping(r, s), [][]int{randomValues(r, s), randomValues(r, s)})
	}
}

func checkGrouping(t *testing.T, s []impl.Variable, g impl.Grouping, lists [][]int) {
	t.Helper()
	want := slices.Clone(s)
	want[g.Var].Levels = len(slices.Compact(slices.Sorted(slices.Values(g.Groups))))
	grouped, ok := impl.GroupSchema(s, g)
	expectSchema(t, fmt.Sprint("GroupSchema ", s, g), grouped, ok, want, true)
	if !impl.IsSchema(grouped) {
		t.Error("not a schema", s, g, grouped)
	}
	for _, values := range lists {
		after := slices.Clone(values)
		after[g.Var] = g.Groups[values[g.Var]]
		got, ok := impl.GroupValues(s, g, values)
		expectInts(t, fmt.Sprint("GroupValues ", s, g, values), got, ok, after, true)
		if _, ok := impl.CombinationIndex(grouped, got); !ok {
			t.Error("not values of the grouped schema", s, g, values, got)
		}
	}
}

func TestSchemaText(t *testing.T) {
	cases := []struct {
		s    []impl.Variable
		want string
	}{
		{schemaOf("sex2", "age5"), "sex:2,age:5"},
		{schemaOf("a2"), "a:2"},
		{schemaOf("abcdefgh8"), "abcdefgh:8"},
		{schemaOf("f2", "e3", "a4", "b5", "d6", "c7"), "f:2,e:3,a:4,b:5,d:6,c:7"},
		{largestSchema(), "work:8,age:8,tenure:8,zzzzzzzz:8,a:8,health:8"},
	}
	for _, c := range cases {
		if text, ok := impl.SchemaText(c.s); text != c.want || !ok {
			t.Error("SchemaText", c.s, text, ok)
		}
		s, ok := impl.ParseSchema(c.want)
		expectSchema(t, "ParseSchema "+c.want, s, ok, c.s, true)
	}
}

func TestSchemaTextsAreReadBack(t *testing.T) {
	r := rand.New(rand.NewSource(22))
	l := append(smallSchemas(), largestSchema())
	for range 1000 {
		l = append(l, randomSchema(r))
	}
	for _, s := range l {
		text, ok := impl.SchemaText(s)
		if text != textOfSchema(s) || !ok {
			t.Error("SchemaText", s, text, ok)
		}
		back, ok := impl.ParseSchema(text)
		expectSchema(t, "ParseSchema "+text, back, ok, s, true)
	}
}

func TestParseSchemaRefuses(t *testing.T) {
	texts := []string{
		"", " ", ",", ":", ":2", "a", "a:", "a:2,", ",a:2", "a:2,,b:2", ",", ",,,,,", "a:2,b", "a,b:2", "a:2,b:", "a:2,:2",
		"a:0", "a:1", "a:9", "a:10", "a:12", "a:-2", "a:+2", "a:02", "a:002", "a: 2", "a:2 ", " a:2", "a :2", "a:2, b:2", "a:2 ,b:2",
		"a:2\n", "\na:2", "a:2,b:2\n", "a:2\x00", "\x00a:2", "a:2.0", "a:2e0", "a:0x2", "a:0b10", "a:0o2", "a:2_", "a:_2", "a:２", "a:٢",
		"a:2:2", "a::2", "a:2:", "a=2", "a2", "a 2", "2:a", "a:b", "a;2", "a:2;b:2", "a:2b:2", "a:22", "a:2,b:22",
		"A:2", "aB:2", "a1:2", "é:2", "ａ:2", "a-b:2", "a_b:2", "abcdefghi:2", "a:2,abcdefghi:2", "\xff:2", "`:2", "{:2",
		"a:2,a:2", "a:2,a:3", "b:2,a:2,c:2,b:2", "a:2,b:2,c:2,d:2,e:2,f:2,g:2", "a:2,b:2,c:2,d:2,e:2,f:2,", "a:2,b:2,c:2,d:2,e:2,f:2,,", ",a:2,b:2,c:2,d:2,e:2,f:2",
		"a:9223372036854775807", "a:-9223372036854775808", "a:9223372036854775808", "a:18446744073709551618", "a:4294967298",
		strings.Repeat("a", 10000), strings.Repeat("a", 10000) + ":2", "a:" + strings.Repeat("9", 10000), "a:" + strings.Repeat("0", 10000) + "2",
		strings.Repeat(",", 10000), strings.Repeat(":", 10000), strings.Repeat("a:2,", 10000), "a:2,b:2" + strings.Repeat(" ", 10000),
	}
	for _, text := range texts {
		s, ok := impl.ParseSchema(text)
		expectSchema(t, fmt.Sprintf("ParseSchema %.40q", text), s, ok, nil, false)
	}
}

func TestParseSchemaOfShortTexts(t *testing.T) {
	const letters = "azA:,-+0128 "
	level := []string{""}
	for range 5 {
		var longer []string
		for _, s := range level {
			for _, c := range letters {
				longer = append(longer, s+string(c))
			}
		}
		for _, text := range longer {
			checkParseSchema(t, text)
		}
		level = longer
	}
}

func checkParseSchema(t *testing.T, text string) {
	t.Helper()
	want, wantOK := schemaOfText(text)
	got, ok := impl.ParseSchema(text)
	if !slices.Equal(got, want) || ok != wantOK {
		t.Errorf("ParseSchema %q is %v %v, not %v %v", text, got, ok, want, wantOK)
	}
}

func TestParseSchemaOfChangedTexts(t *testing.T) {
	for _, s := range append(smallSchemas(), largestSchema()) {
		text := textOfSchema(s)
		for i := range len(text) + 1 {
			for c := range 256 {
				letter := string([]byte{byte(c)})
				checkParseSchema(t, text[:i]+letter+text[i:])
				if i < len(text) {
					checkParseSchema(t, text[:i]+letter+text[i+1:])
				}
			}
			for k := i; k <= len(text); k++ {
				checkParseSchema(t, text[:i]+text[k:])
			}
		}
	}
}
