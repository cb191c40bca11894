package tests

import (
	"fmt"
	"slices"
	"testing"

	"loop.example/g00908/impl"
)

// TestChapter4RefusesInvalidGeos gives areas, levels and values that would
// suit the geography if it were valid, and others.
func TestChapter4RefusesInvalidGeos(t *testing.T) {
	for _, g := range invalidGeos() {
		n := len(g.Parents)
		call := fmt.Sprint(g)
		for _, i := range []int{-1, 0, 1, n / 2, n - 1, n} {
			refusesArea(t, g, i)
		}
		for level := -1; level <= 3; level++ {
			areas, ok := impl.LevelOf(g, level)
			expectInts(t, fmt.Sprint("LevelOf ", call, level), areas, ok, nil, false)
		}
		leaves, ok := impl.LeavesOf(g)
		expectInts(t, "LeavesOf "+call, leaves, ok, nil, false)
		is, ok := impl.IsUniform(g)
		expectBool(t, "IsUniform "+call, is, ok, false, false)
		text, ok := impl.GeoText(g)
		expectText(t, "GeoText "+call, text, ok, "", false)
		for _, values := range [][]int{nil, make([]int, n), {0}, {0, 1}, extremeInts()} {
			sums, ok := impl.SumsUp(g, values)
			expectInts(t, fmt.Sprint("SumsUp ", call, values), sums, ok, nil, false)
		}
	}
}

// TestChapter4AcceptsAllNumbers fails also by the panic of a call.
func TestChapter4AcceptsAllNumbers(t *testing.T) {
	for _, a := range extremeInts() {
		for _, b := range extremeInts() {
			g := tree(a, b)
			if impl.IsGeo(g) != geoIsValid(g) {
				t.Error("IsGeo", g)
			}
			callChapter4(g, []int{a, b, a}, a, b)
			callChapter4(impl.Geo{Parents: []int{a, b}}, []int{a, b}, b, a)
			for _, good := range []impl.Geo{tree(), tree(0, 0), chain(30), star(30)} {
				callChapter4(good, append(make([]int, len(good.Parents)-1), a), a, b)
				n := len(good.Parents)
				if a < 0 || a >= n {
					refusesArea(t, good, a)
				}
				area, ok := impl.AncestorAt(good, n-1, b)
				if _, exists := impl.LevelOf(good, b); ok != exists {
					t.Error("AncestorAt", good, b, area, ok)
				}
			}
			checkParseGeo(t, fmt.Sprintf("%d(%d)", a, b))
			checkParseGeo(t, fmt.Sprintf("0(%d %d)", a, b))
			checkParseGeo(t, fmt.Sprintf("0(%d(%d))", a, b))
		}
	}
}

// callChapter4 calls every function of chapter 4 with the arguments.
func callChapter4(g impl.Geo, values []int, i, k int) {
	impl.IsGeo(g)
	impl.DepthOf(g, i)
	impl.LevelOf(g, k)
	impl.LeavesOf(g)
	impl.AncestorAt(g, i, k)
	impl.PathTo(g, i)
	impl.ChildrenOf(g, i)
	impl.MeetOf(g, i, k)
	impl.IsUniform(g)
	impl.SumsUp(g, values)
	text, _ := impl.GeoText(g)
	impl.ParseGeo(text)
}

// farParents are those of a geography, with areas behind them that it does not
// have.
func farParents() []int { return []int{-1, 0, 0, 1, 1, 3, 3, 5, 99} }

func TestChapter4LeavesItsArguments(t *testing.T) {
	for spoiled := -1; spoiled < 5; spoiled++ {
		parents, values := farParents(), []int{1, -2, 4, -8, 16, -32, 64}
		if spoiled >= 0 {
			parents[spoiled], values[spoiled] = 30, 1000001
		}
		before := fmt.Sprint(parents, values)
		for i := -1; i <= 5; i++ {
			for k := -1; k <= 5; k++ {
				callChapter4(impl.Geo{Parents: parents[:5]}, values[:5], i, k)
			}
		}
		if after := fmt.Sprint(parents, values); after != before {
			t.Error("changed", after, before)
		}
	}
}

func TestChapter4DoesNotReadSpareCapacity(t *testing.T) {
	parents, values := farParents(), []int{1, -2, 4, -8, 16, 1000001, 64}
	for n := 1; n <= 8; n++ {
		checkGeo(t, impl.Geo{Parents: parents[:n]})
	}
	for n := 1; n <= 5; n++ {
		g := impl.Geo{Parents: parents[:n]}
		sums, ok := impl.SumsUp(g, values[:n])
		expectInts(t, fmt.Sprint("SumsUp ", g), sums, ok, sumsOf(g, values[:n]), true)
		sums, ok = impl.SumsUp(g, values[:n-1])
		expectInts(t, fmt.Sprint("SumsUp of too few ", g), sums, ok, nil, false)
		sums, ok = impl.SumsUp(impl.Geo{Parents: parents[:n+1]}, values[:n])
		expectInts(t, fmt.Sprint("SumsUp of too few ", g), sums, ok, nil, false)
	}
	if impl.IsGeo(impl.Geo{Parents: parents[:0]}) {
		t.Error("IsGeo of no areas")
	}
}

// listsOf returns what the functions with a list or a geography as their result
// return for each area and level.
func listsOf(g impl.Geo, values []int) [][]int {
	leaves, _ := impl.LeavesOf(g)
	sums, _ := impl.SumsUp(g, values)
	back, _ := impl.ParseGeo(textOfGeo(g))
	lists := [][]int{leaves, sums, back.Parents}
	for i := range g.Parents {
		level, _ := impl.LevelOf(g, i)
		path, _ := impl.PathTo(g, i)
		children, _ := impl.ChildrenOf(g, i)
		lists = append(lists, level, path, children)
	}
	return lists
}

// expectedLists says what listsOf must return.
func expectedLists(g impl.Geo, values []int) [][]int {
	lists := [][]int{leavesIn(g), sumsOf(g, values), slices.Clone(g.Parents)}
	for i := range g.Parents {
		lists = append(lists, levelOf(g, i), pathOf(g, i), childrenOf(g, i))
	}
	return lists
}

func expectLists(t *testing.T, call string, got, want [][]int) {
	t.Helper()
	if !slices.EqualFunc(got, want, slices.Equal) {
		t.Errorf("%.200s: %v, not %v", call, got, want)
	}
}

// TestChapter4ResultsAreNew overwrites the results, one after the other, and
// what their capacity holds behind them, and looks at the others, at the
// arguments and at what the next calls return.
func TestChapter4ResultsAreNew(t *testing.T) {
	for _, g := range append(fewAreas(5), largeGeos()...) {
		values := make([]int, len(g.Parents))
		for i := range values {
			values[i] = i*i - 40
		}
		before, want := fmt.Sprint(g, values), expectedLists(g, values)
		for range 2 {
			lists := listsOf(g, values)
			expectLists(t, fmt.Sprint("results for ", g), lists, want)
			for i := range lists {
				clobber(lists[i], -99)
				expectLists(t, fmt.Sprint("results behind one that is overwritten for ", g), lists[i+1:], want[i+1:])
			}
			if after := fmt.Sprint(g, values); after != before {
				t.Fatal("a result shares memory with an argument", after, before)
			}
		}
	}
}

// TestChapter4ResultsStay overwrites the arguments after the calls.
func TestChapter4ResultsStay(t *testing.T) {
	for _, g := range append(fewAreas(5), largeGeos()...) {
		values := slices.Repeat([]int{7}, len(g.Parents))
		lists, want := listsOf(g, values), expectedLists(g, values)
		call := fmt.Sprint("results kept for ", g)
		clobber(values, -99)
		clobber(g.Parents, -99)
		expectLists(t, call, lists, want)
	}
}

func TestChapter4KeepsNoState(t *testing.T) {
	g := tree(0, 0, 1, 1, 3)
	for range 50 {
		impl.ParseGeo("0(1(2(3)))")
		impl.ParseGeo("0(1(3 4) 2")
		callChapter4(star(30), make([]int, 30), 29, 1)
		callChapter4(chain(31), make([]int, 31), 30, 30)
		checkGeo(t, g)
		sums, ok := impl.SumsUp(g, []int{0, 0, 5, 1, 2, 3})
		expectInts(t, "SumsUp", sums, ok, []int{11, 6, 5, 4, 2, 3}, true)
	}
}
