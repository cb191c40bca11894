package tests

import (
	"fmt"
	"math"
	"math/rand"
	"regexp"
	"slices"
	"strconv"
	"strings"
	"testing"

	"loop.example/g00908/impl"
)

var (
	nameForm   = regexp.MustCompile(`\A[a-z]{1,8}\z`)
	schemaForm = regexp.MustCompile(`\A[a-z]{1,8}:[2-8](,[a-z]{1,8}:[2-8]){0,5}\z`)
)

// schemaIsValid says what IsSchema must say.
func schemaIsValid(s []impl.Variable) bool {
	if len(s) < 1 || len(s) > 6 {
		return false
	}
	for i, v := range s {
		if !nameForm.MatchString(v.Name) || v.Levels < 2 || v.Levels > 8 {
			return false
		}
		for _, other := range s[:i] {
			if other.Name == v.Name {
				return false
			}
		}
	}
	return true
}

// schemaOfText says what ParseSchema must return.
func schemaOfText(text string) ([]impl.Variable, bool) {
	if !schemaForm.MatchString(text) {
		return nil, false
	}
	var s []impl.Variable
	for _, part := range strings.Split(text, ",") {
		colon := strings.Index(part, ":")
		s = append(s, impl.Variable{Name: part[:colon], Levels: int(part[colon+1] - '0')})
	}
	if !schemaIsValid(s) {
		return nil, false
	}
	return s, true
}

// textOfSchema says what SchemaText must return.
func textOfSchema(s []impl.Variable) string {
	text := ""
	for _, v := range s {
		text += fmt.Sprintf(",%s:%d", v.Name, v.Levels)
	}
	return text[1:]
}

// listsOfValues returns all lists of values of a schema in lexicographic order.
func listsOfValues(s []impl.Variable) [][]int {
	lists := [][]int{{}}
	for _, v := range s {
		var longer [][]int
		for _, l := range lists {
			for x := range v.Levels {
				longer = append(longer, append(slices.Clone(l), x))
			}
		}
		lists = longer
	}
	return lists
}

// groupsAreGood says of one number for each level whether they are groups.
func groupsAreGood(groups []int) bool {
	used := slices.Compact(slices.Sorted(slices.Values(groups)))
	for i, group := range used {
		if group != i {
			return false
		}
	}
	return len(used) >= 2
}

// allNumbers returns all lists of n numbers in low..high.
func allNumbers(n, low, high int) [][]int {
	lists := [][]int{{}}
	for range n {
		var longer [][]int
		for _, l := range lists {
			for x := low; x <= high; x++ {
				longer = append(longer, append(slices.Clone(l), x))
			}
		}
		lists = longer
	}
	return lists
}

// schemaOf returns a schema of variables written as a name and a digit.
func schemaOf(variables ...string) []impl.Variable {
	var s []impl.Variable
	for _, v := range variables {
		last := len(v) - 1
		levels, err := strconv.Atoi(v[last:])
		if err != nil {
			panic(v)
		}
		s = append(s, impl.Variable{Name: v[:last], Levels: levels})
	}
	return s
}

// smallSchemas are valid, with names in no order and few lists of values.
func smallSchemas() [][]impl.Variable {
	return [][]impl.Variable{
		schemaOf("a2"), schemaOf("z8"), schemaOf("abcdefgh3"), schemaOf("sex2", "age3"), schemaOf("zz3", "a2", "m4"),
		schemaOf("b2", "a2"), schemaOf("m5", "z2", "a3", "b2"), schemaOf("aa2", "a3", "aaa2", "ab4"),
		schemaOf("f2", "e3", "a2", "b2", "d3", "c2"), schemaOf("tenure8", "sex2", "age8"), schemaOf("qrstuvwx2", "ijklmnop8"),
		schemaOf("u2", "t2", "y2", "x2", "w2", "v2"), schemaOf("age8", "b2"), schemaOf("b2", "age8"),
	}
}

// largestSchema has the greatest number of lists of values.
func largestSchema() []impl.Variable {
	return schemaOf("work8", "age8", "tenure8", "zzzzzzzz8", "a8", "health8")
}

// invalidSchemas are lists of variables that are not schemas.
func invalidSchemas() [][]impl.Variable {
	l := [][]impl.Variable{
		nil, {}, {{}}, schemaOf("a2", "a2"), schemaOf("a2", "a3"), schemaOf("b2", "a2", "c2", "b2"),
		schemaOf("a2", "b2", "c2", "d2", "e2", "f2", "g2"), schemaOf("a2", "b2", "c2", "d2", "e2", "a2"),
		schemaOf("a2", "b2", "c2", "d2", "e2", "f2", "f2"), make([]impl.Variable, 6), make([]impl.Variable, 1000),
	}
	for _, name := range []string{"", "abcdefghi", "A", "Z", "aB", "a1", "1", "0a", "a b", " ", "a ", " a", "a_b", "a-b", "a:", "a,b", "`", "{", "a\x00", "\x00", "a\n", "é", "ａ", "\xff", "aé", strings.Repeat("a", 264), strings.Repeat("a", 10000)} {
		l = append(l, []impl.Variable{{Name: name, Levels: 2}})
		l = append(l, []impl.Variable{{Name: "sex", Levels: 2}, {Name: name, Levels: 3}, {Name: "age", Levels: 4}})
		l = append(l, []impl.Variable{{Name: "sex", Levels: 2}, {Name: "age", Levels: 4}, {Name: name, Levels: 8}})
	}
	for _, levels := range []int{0, 1, -1, -2, -8, 9, 10, 12, 258, 1 << 32, 1<<32 + 2, math.MaxInt, math.MinInt, math.MinInt + 2} {
		l = append(l, []impl.Variable{{Name: "sex", Levels: levels}})
		l = append(l, []impl.Variable{{Name: "sex", Levels: levels}, {Name: "age", Levels: 3}, {Name: "b", Levels: 2}})
		l = append(l, []impl.Variable{{Name: "sex", Levels: 2}, {Name: "age", Levels: levels}})
	}
	return l
}

// randomSchema returns a valid schema with names in no order.
func randomSchema(r *rand.Rand) []impl.Variable {
	s := make([]impl.Variable, 1+r.Intn(6))
	used := map[string]bool{}
	for i := range s {
		name := ""
		for name == "" || used[name] {
			name = ""
			for range 1 + r.Intn(8) {
				name += string(rune('a' + r.Intn(26)))
			}
		}
		used[name] = true
		s[i] = impl.Variable{Name: name, Levels: 2 + r.Intn(7)}
	}
	return s
}

func randomValues(r *rand.Rand, s []impl.Variable) []int {
	values := make([]int, len(s))
	for i, v := range s {
		values[i] = r.Intn(v.Levels)
	}
	return values
}

// randomGrouping returns a valid grouping for a schema.
func randomGrouping(r *rand.Rand, s []impl.Variable) impl.Grouping {
	g := impl.Grouping{Var: r.Intn(len(s))}
	g.Groups = make([]int, s[g.Var].Levels)
	count := 2 + r.Intn(len(g.Groups)-1)
	for !groupsAreGood(g.Groups) {
		for i := range g.Groups {
			g.Groups[i] = r.Intn(count)
		}
	}
	return g
}

// wrongValues returns lists that are not values of a schema.
func wrongValues(s []impl.Variable) [][]int {
	good := make([]int, len(s))
	l := [][]int{nil, good[1:], append(slices.Clone(good), 0), make([]int, 2*len(s)), make([]int, 1000)}
	for i, v := range s {
		for _, x := range []int{-1, -2, -v.Levels, v.Levels, v.Levels + 1, math.MaxInt, math.MinInt, math.MinInt + 1, 1 << 32, 256} {
			bad := slices.Clone(good)
			bad[i] = x
			l = append(l, bad)
		}
	}
	return l
}

// wrongGroupings returns groupings that are not ones for a schema.
func wrongGroupings(s []impl.Variable) []impl.Grouping {
	l := []impl.Grouping{{}}
	for i, v := range s {
		one, all := make([]int, v.Levels), make([]int, v.Levels)
		for x := range all {
			all[x] = x
		}
		l = append(l, impl.Grouping{Var: i}, impl.Grouping{Var: i, Groups: one}, impl.Grouping{Var: i, Groups: all[1:]},
			impl.Grouping{Var: i, Groups: append(slices.Clone(all), 0)}, impl.Grouping{Var: i, Groups: append(slices.Clone(all), v.Levels)},
			impl.Grouping{Var: i, Groups: make([]int, 1000)}, impl.Grouping{Var: i, Groups: []int{1}}, impl.Grouping{Var: i, Groups: []int{0}})
		for place := range all {
			for _, x := range []int{-1, v.Levels, v.Levels + 1, 8, math.MaxInt, math.MinInt, math.MinInt + 1, 1 << 32} {
				bad := slices.Clone(all)
				bad[place] = x
				l = append(l, impl.Grouping{Var: i, Groups: bad})
			}
		}
		for group := range v.Levels - 1 {
			gap := slices.Clone(all)
			gap[group] = v.Levels - 1
			l = append(l, impl.Grouping{Var: i, Groups: gap})
		}
		for _, place := range []int{-1, -len(s), len(s), len(s) + 1, math.MaxInt, math.MinInt, 1 << 32} {
			l = append(l, impl.Grouping{Var: place, Groups: all})
		}
	}
	return l
}

func expectInts(t *testing.T, call string, got []int, ok bool, want []int, wantOK bool) {
	t.Helper()
	if !slices.Equal(got, want) || ok != wantOK {
		t.Errorf("%s is %v %v, not %v %v", call, got, ok, want, wantOK)
	}
}

func expectInt(t *testing.T, call string, got int, ok bool, want int, wantOK bool) {
	t.Helper()
	if got != want || ok != wantOK {
		t.Errorf("%s is %v %v, not %v %v", call, got, ok, want, wantOK)
	}
}

func expectSchema(t *testing.T, call string, got []impl.Variable, ok bool, want []impl.Variable, wantOK bool) {
	t.Helper()
	if !slices.Equal(got, want) || ok != wantOK {
		t.Errorf("%s is %v %v, not %v %v", call, got, ok, want, wantOK)
	}
}

func TestSchemaLimits(t *testing.T) {
	if impl.MaxVars != 6 || impl.MaxLevels != 8 {
		t.Error("limits", impl.MaxVars, impl.MaxLevels)
	}
}

func TestOracleKnowsSchemas(t *testing.T) {
	for _, s := range append(smallSchemas(), largestSchema()) {
		if !schemaIsValid(s) {
			t.Error("should be valid", s)
		}
	}
	for _, s := range invalidSchemas() {
		if schemaIsValid(s) {
			t.Error("should not be valid", s)
		}
	}
	for _, s := range smallSchemas() {
		for _, g := range wrongGroupings(s) {
			if 0 <= g.Var && g.Var < len(s) && len(g.Groups) == s[g.Var].Levels && groupsAreGood(g.Groups) {
				t.Error("should not be valid", s, g)
			}
		}
	}
}
