package tests

import (
	"fmt"
	"math"
	"math/rand"
	"regexp"
	"slices"
	"testing"

	"loop.example/g00908/impl"
)

var areaForm = regexp.MustCompile(`\A(0|[1-9][0-9]?)`)

// geoIsValid says what IsGeo must say.
func geoIsValid(g impl.Geo) bool {
	for i, parent := range g.Parents {
		root := i == 0 && parent == -1
		other := i > 0 && 0 <= parent && parent < i
		if !root && !other {
			return false
		}
	}
	return len(g.Parents) > 0 && len(g.Parents) < 31
}

// pathOf says what PathTo must return.
func pathOf(g impl.Geo, i int) []int {
	if i == 0 {
		return []int{0}
	}
	return append(pathOf(g, g.Parents[i]), i)
}

// areasWhere returns the areas for which is says true.
func areasWhere(g impl.Geo, is func(i int) bool) []int {
	var areas []int
	for i := range g.Parents {
		if is(i) {
			areas = append(areas, i)
		}
	}
	return areas
}

// levelOf says what LevelOf must return; it is empty for a level without areas.
func levelOf(g impl.Geo, level int) []int {
	return areasWhere(g, func(i int) bool { return len(pathOf(g, i)) == level+1 })
}

// childrenOf says what ChildrenOf must return.
func childrenOf(g impl.Geo, i int) []int {
	return areasWhere(g, func(k int) bool { return g.Parents[k] == i })
}

// leavesIn says what LeavesOf must return.
func leavesIn(g impl.Geo) []int {
	return areasWhere(g, func(i int) bool { return !slices.Contains(g.Parents, i) })
}

// meetOf says what MeetOf must return.
func meetOf(g impl.Geo, i, k int) int {
	others := pathOf(g, k)
	meet := 0
	for _, area := range pathOf(g, i) {
		if slices.Contains(others, area) {
			meet = area
		}
	}
	return meet
}

// uniform says what IsUniform must say.
func uniform(g impl.Geo) bool {
	depths := map[int]bool{}
	for _, leaf := range leavesIn(g) {
		depths[len(pathOf(g, leaf))] = true
	}
	return len(depths) == 1
}

// sumsOf says what SumsUp must return: each value is counted in all areas of
// the path to its area.
func sumsOf(g impl.Geo, values []int) []int {
	sums := make([]int, len(g.Parents))
	for i, value := range values {
		for _, area := range pathOf(g, i) {
			sums[area] += value
		}
	}
	return sums
}

// textOfGeo says what GeoText must return.
func textOfGeo(g impl.Geo) string { return textOfArea(g, 0) }

func textOfArea(g impl.Geo, i int) string {
	text, end := fmt.Sprint(i), ""
	for n, child := range childrenOf(g, i) {
		if n == 0 {
			text, end = text+"(", ")"
		} else {
			text += " "
		}
		text += textOfArea(g, child)
	}
	return text + end
}

// geoOfText says what ParseGeo must return. It reads the text from the start
// and looks at each area when it comes.
func geoOfText(text string) (impl.Geo, bool) {
	parents := map[int]int{}
	_, rest, ok := readArea(parents, -1, -1, text)
	if !ok || rest != "" {
		return impl.Geo{}, false
	}
	var g impl.Geo
	for i := range len(parents) {
		parent, used := parents[i]
		if !used {
			return impl.Geo{}, false
		}
		g.Parents = append(g.Parents, parent)
	}
	if !geoIsValid(g) {
		return impl.Geo{}, false
	}
	return g, true
}

// readArea reads an area behind a sibling and returns its number and the rest
// of the text.
func readArea(parents map[int]int, parent, sibling int, text string) (int, string, bool) {
	digits := areaForm.FindString(text)
	area, rest := 0, text[len(digits):]
	for _, digit := range digits {
		area = area*10 + int(digit-'0')
	}
	if _, used := parents[area]; digits == "" || used || area <= sibling {
		return 0, "", false
	}
	parents[area] = parent
	if rest == "" || rest[0] != '(' {
		return area, rest, true
	}
	last, ok := -1, true
	for rest[0] != ')' {
		last, rest, ok = readArea(parents, area, last, rest[1:])
		if !ok || rest == "" || rest[0] != ' ' && rest[0] != ')' {
			return 0, "", false
		}
	}
	return area, rest[1:], true
}

// tree returns the geography with the parents of all areas but the root.
func tree(parents ...int) impl.Geo {
	return impl.Geo{Parents: append([]int{-1}, parents...)}
}

// chain has one area on each level.
func chain(n int) impl.Geo {
	var g impl.Geo
	for i := range n {
		g.Parents = append(g.Parents, i-1)
	}
	return g
}

// star has all areas but the root below the root.
func star(n int) impl.Geo { return tree(make([]int, n-1)...) }

// broom is a chain with a star at its end.
func broom(handle, n int) impl.Geo {
	g := chain(handle)
	for len(g.Parents) < n {
		g.Parents = append(g.Parents, handle-1)
	}
	return g
}

// fewAreas returns all geographies with at most n areas.
func fewAreas(n int) []impl.Geo {
	level := []impl.Geo{tree()}
	all := slices.Clone(level)
	for size := 1; size < n; size++ {
		var larger []impl.Geo
		for _, g := range level {
			for parent := range size {
				larger = append(larger, impl.Geo{Parents: append(slices.Clone(g.Parents), parent)})
			}
		}
		all = append(all, larger...)
		level = larger
	}
	return all
}

// largeGeos returns geographies of many forms, most of them with 30 areas.
func largeGeos() []impl.Geo {
	var pairs []int
	for i := range 29 {
		pairs = append(pairs, i/2)
	}
	var comb []int
	for i := range 29 {
		comb = append(comb, i/2*2)
	}
	return []impl.Geo{
		chain(30), chain(29), star(30), star(29), broom(29, 30), broom(15, 30), broom(2, 30), tree(pairs...), tree(pairs[:14]...), tree(comb...),
		tree(0, 0, 0, 0, 0, 1, 1, 1, 1, 2, 2, 2, 3, 3, 4, 6, 6, 7, 11, 11, 11, 14), tree(0, 1, 2, 3, 0, 5, 6, 0, 8, 0, 10, 11, 12, 13, 14, 0),
	}
}

// randomGeo returns a valid geography in which a parent is at most reach areas
// before its child.
func randomGeo(r *rand.Rand, n, reach int) impl.Geo {
	g := tree()
	for i := 1; i < n; i++ {
		g.Parents = append(g.Parents, i-1-r.Intn(min(i, reach)))
	}
	return g
}

func randomNumbers(r *rand.Rand, n int) []int {
	values := make([]int, n)
	for i := range values {
		values[i] = r.Intn(2000001) - 1000000
	}
	return values
}

// invalidGeos returns geographies that are not valid.
func invalidGeos() []impl.Geo {
	l := []impl.Geo{{}, {Parents: []int{}}, chain(31), star(31), broom(15, 31), chain(32), star(60), chain(1000), {Parents: make([]int, 30)}, {Parents: make([]int, 1)}}
	for _, g := range []impl.Geo{tree(), tree(0), tree(0, 0, 1, 1), chain(5), star(5), chain(30), star(30)} {
		n := len(g.Parents)
		for i := range g.Parents {
			for _, parent := range []int{-1, 0, -2, -30, i, i + 1, n - 1, n, n + 1, 30, 256, 1 << 32, math.MaxInt, math.MinInt, math.MinInt + 1} {
				bad := impl.Geo{Parents: slices.Clone(g.Parents)}
				bad.Parents[i] = parent
				if !geoIsValid(bad) {
					l = append(l, bad)
				}
			}
		}
	}
	return l
}

func expectGeo(t *testing.T, call string, got impl.Geo, ok bool, want impl.Geo, wantOK bool) {
	t.Helper()
	if !slices.Equal(got.Parents, want.Parents) || ok != wantOK {
		t.Errorf("%.200s is %v %v, not %v %v", call, got, ok, want, wantOK)
	}
}

func TestGeoLimits(t *testing.T) {
	if impl.MaxNodes != 30 {
		t.Error("limits", impl.MaxNodes)
	}
}

func TestOracleKnowsGeos(t *testing.T) {
	few := fewAreas(5)
	if len(few) != 1+1+2+6+24 {
		t.Error("few areas", len(few))
	}
	for _, g := range append(few, largeGeos()...) {
		back, ok := geoOfText(textOfGeo(g))
		if !geoIsValid(g) || !ok {
			t.Error("should be valid", g)
		}
		expectGeo(t, "the oracle "+textOfGeo(g), back, ok, g, true)
	}
	for _, g := range invalidGeos() {
		if geoIsValid(g) {
			t.Error("should not be valid", g)
		}
	}
}
