package tests

import (
	"fmt"
	"math"
	"math/rand"
	"slices"
	"testing"

	"loop.example/g00908/impl"
)

func TestIsGeo(t *testing.T) {
	for _, g := range append(fewAreas(6), largeGeos()...) {
		if !impl.IsGeo(g) {
			t.Error("IsGeo", g)
		}
	}
	for _, g := range invalidGeos() {
		if impl.IsGeo(g) {
			t.Error("IsGeo", g)
		}
	}
}

// TestIsGeoCountsAreas gives geographies of all lengths about MaxNodes.
func TestIsGeoCountsAreas(t *testing.T) {
	for n := 1; n <= 70; n++ {
		for _, g := range []impl.Geo{chain(n), star(n), broom((n+1)/2, n)} {
			if impl.IsGeo(g) != (n <= 30) {
				t.Error("IsGeo", n, g)
			}
		}
	}
	if impl.IsGeo(impl.Geo{}) || impl.IsGeo(impl.Geo{Parents: []int{}}) {
		t.Error("IsGeo of no areas")
	}
}

// TestIsGeoLooksAtEachParent goes through all lists of few numbers.
func TestIsGeoLooksAtEachParent(t *testing.T) {
	for n := range 5 {
		for _, parents := range allNumbers(n, -2, 4) {
			g := impl.Geo{Parents: parents}
			if impl.IsGeo(g) != geoIsValid(g) {
				t.Error("IsGeo", g)
			}
		}
	}
	for i := range 30 {
		for parent := -40; parent <= 40; parent++ {
			for _, g := range []impl.Geo{chain(30), star(30)} {
				g.Parents[i] = parent
				if impl.IsGeo(g) != geoIsValid(g) {
					t.Error("IsGeo", g)
				}
			}
		}
	}
}

// checkGeo calls the functions that need no more than a geography, areas and
// levels, for all of these and some beyond.
func checkGeo(t *testing.T, g impl.Geo) {
	t.Helper()
	n := len(g.Parents)
	leaves, ok := impl.LeavesOf(g)
	expectInts(t, fmt.Sprint("LeavesOf ", g), leaves, ok, leavesIn(g), true)
	is, ok := impl.IsUniform(g)
	expectBool(t, fmt.Sprint("IsUniform ", g), is, ok, uniform(g), true)
	text, ok := impl.GeoText(g)
	expectText(t, fmt.Sprint("GeoText ", g), text, ok, textOfGeo(g), true)
	back, ok := impl.ParseGeo(text)
	expectGeo(t, "ParseGeo "+text, back, ok, g, true)
	for level := -2; level <= n+1; level++ {
		want := levelOf(g, level)
		areas, ok := impl.LevelOf(g, level)
		expectInts(t, fmt.Sprint("LevelOf ", g, level), areas, ok, want, len(want) > 0)
	}
	for i := -2; i <= n+1; i++ {
		if i >= 0 && i < n {
			checkArea(t, g, i)
		} else {
			refusesArea(t, g, i)
		}
	}
}

func checkArea(t *testing.T, g impl.Geo, i int) {
	t.Helper()
	call, path := fmt.Sprint(g, i), pathOf(g, i)
	depth, ok := impl.DepthOf(g, i)
	expectInt(t, "DepthOf "+call, depth, ok, len(path)-1, true)
	areas, ok := impl.PathTo(g, i)
	expectInts(t, "PathTo "+call, areas, ok, path, true)
	children, ok := impl.ChildrenOf(g, i)
	expectInts(t, "ChildrenOf "+call, children, ok, childrenOf(g, i), true)
	for level := -2; level <= len(path)+1; level++ {
		want, wantOK := 0, 0 <= level && level < len(path)
		if wantOK {
			want = path[level]
		}
		area, ok := impl.AncestorAt(g, i, level)
		expectInt(t, fmt.Sprint("AncestorAt ", call, " ", level), area, ok, want, wantOK)
	}
	for k := range g.Parents {
		area, ok := impl.MeetOf(g, i, k)
		expectInt(t, fmt.Sprint("MeetOf ", call, " ", k), area, ok, meetOf(g, i, k), true)
	}
}

// refusesArea calls the functions with an area that the geography does not
// have, or with a geography that is not valid.
func refusesArea(t *testing.T, g impl.Geo, i int) {
	t.Helper()
	call := fmt.Sprint(g, i)
	depth, ok := impl.DepthOf(g, i)
	expectInt(t, "DepthOf "+call, depth, ok, 0, false)
	areas, ok := impl.PathTo(g, i)
	expectInts(t, "PathTo "+call, areas, ok, nil, false)
	children, ok := impl.ChildrenOf(g, i)
	expectInts(t, "ChildrenOf "+call, children, ok, nil, false)
	for _, k := range []int{-1, 0, 1, len(g.Parents) - 1, len(g.Parents), i} {
		area, ok := impl.AncestorAt(g, i, k)
		expectInt(t, fmt.Sprint("AncestorAt ", call, " ", k), area, ok, 0, false)
		area, ok = impl.MeetOf(g, i, k)
		expectInt(t, fmt.Sprint("MeetOf ", call, " ", k), area, ok, 0, false)
		area, ok = impl.MeetOf(g, k, i)
		expectInt(t, fmt.Sprint("MeetOf ", g, k, " ", i), area, ok, 0, false)
	}
}

func TestAllFewAreas(t *testing.T) {
	for _, g := range fewAreas(7) {
		checkGeo(t, g)
	}
}

func TestLargeGeos(t *testing.T) {
	for _, g := range largeGeos() {
		checkGeo(t, g)
	}
	r := rand.New(rand.NewSource(41))
	for _, reach := range []int{1, 2, 3, 8, 30} {
		for n := 1; n <= 30; n++ {
			checkGeo(t, randomGeo(r, n, reach))
		}
	}
}

func TestGeoExample(t *testing.T) {
	g := impl.Geo{Parents: []int{-1, 0, 0, 1, 1}}
	text, ok := impl.GeoText(g)
	expectText(t, "GeoText", text, ok, "0(1(3 4) 2)", true)
	back, ok := impl.ParseGeo("0(1(3 4) 2)")
	expectGeo(t, "ParseGeo", back, ok, g, true)
	leaves, ok := impl.LeavesOf(g)
	expectInts(t, "LeavesOf", leaves, ok, []int{2, 3, 4}, true)
	path, ok := impl.PathTo(g, 4)
	expectInts(t, "PathTo", path, ok, []int{0, 1, 4}, true)
	meet, ok := impl.MeetOf(g, 3, 2)
	expectInt(t, "MeetOf", meet, ok, 0, true)
	is, ok := impl.IsUniform(g)
	expectBool(t, "IsUniform", is, ok, false, true)
	sums, ok := impl.SumsUp(g, []int{0, 0, 5, 1, 2})
	expectInts(t, "SumsUp", sums, ok, []int{8, 3, 5, 1, 2}, true)
}

// TestLevelExamples has leaves on several levels.
func TestLevelExamples(t *testing.T) {
	g := tree(0, 0, 1, 3, 3, 0)
	for level, want := range [][]int{{0}, {1, 2, 6}, {3}, {4, 5}, nil, nil} {
		areas, ok := impl.LevelOf(g, level)
		expectInts(t, fmt.Sprint("LevelOf ", level), areas, ok, want, want != nil)
	}
	for _, level := range append(extremeInts(), -1, -2, 4, 30) {
		if level >= 0 && level < 4 {
			continue
		}
		areas, ok := impl.LevelOf(g, level)
		expectInts(t, fmt.Sprint("LevelOf ", level), areas, ok, nil, false)
	}
	leaves, ok := impl.LeavesOf(g)
	expectInts(t, "LeavesOf", leaves, ok, []int{2, 4, 5, 6}, true)
	for level, want := range []int{0, 1, 3, 5} {
		area, ok := impl.AncestorAt(g, 5, level)
		expectInt(t, fmt.Sprint("AncestorAt 5 ", level), area, ok, want, true)
	}
	for _, c := range [][2]int{{5, 4}, {5, -1}, {2, 2}, {6, 3}, {0, 1}, {0, -1}, {5, math.MaxInt}, {5, math.MinInt}} {
		area, ok := impl.AncestorAt(g, c[0], c[1])
		expectInt(t, fmt.Sprint("AncestorAt ", c), area, ok, 0, false)
	}
}

func TestRootAlone(t *testing.T) {
	g := tree()
	checkGeo(t, g)
	children, ok := impl.ChildrenOf(g, 0)
	expectInts(t, "ChildrenOf", children, ok, nil, true)
	leaves, ok := impl.LeavesOf(g)
	expectInts(t, "LeavesOf", leaves, ok, []int{0}, true)
	is, ok := impl.IsUniform(g)
	expectBool(t, "IsUniform", is, ok, true, true)
	sums, ok := impl.SumsUp(g, []int{-7})
	expectInts(t, "SumsUp", sums, ok, []int{-7}, true)
	text, ok := impl.GeoText(g)
	expectText(t, "GeoText", text, ok, "0", true)
}

func TestChainsAndStars(t *testing.T) {
	for n := 2; n <= 30; n++ {
		last := n - 1
		depth, ok := impl.DepthOf(chain(n), last)
		expectInt(t, "DepthOf in a chain", depth, ok, last, true)
		depth, ok = impl.DepthOf(star(n), last)
		expectInt(t, "DepthOf in a star", depth, ok, 1, true)
		leaves, ok := impl.LeavesOf(chain(n))
		expectInts(t, "LeavesOf a chain", leaves, ok, []int{last}, true)
		leaves, ok = impl.LeavesOf(star(n))
		if len(leaves) != last || !ok {
			t.Error("LeavesOf a star", leaves, ok)
		}
		for _, g := range []impl.Geo{chain(n), star(n)} {
			is, ok := impl.IsUniform(g)
			expectBool(t, fmt.Sprint("IsUniform ", g), is, ok, true, true)
		}
		is, ok := impl.IsUniform(impl.Geo{Parents: append(chain(n).Parents, 0)})
		expectBool(t, fmt.Sprint("IsUniform of a chain and a leaf ", n), is, ok, n == 2, n < 30)
	}
}

func TestMeetOfExamples(t *testing.T) {
	g := tree(0, 0, 1, 3, 3, 2, 5)
	cases := [][3]int{{7, 7, 7}, {7, 5, 5}, {7, 3, 3}, {7, 1, 1}, {7, 0, 0}, {7, 4, 3}, {4, 5, 3}, {6, 7, 0}, {6, 2, 2}, {2, 1, 0}, {6, 4, 0}, {0, 0, 0}}
	for _, c := range cases {
		area, ok := impl.MeetOf(g, c[0], c[1])
		expectInt(t, fmt.Sprint("MeetOf ", c), area, ok, c[2], true)
		area, ok = impl.MeetOf(g, c[1], c[0])
		expectInt(t, fmt.Sprint("MeetOf the other way ", c), area, ok, c[2], true)
	}
}

// TestAncestorsAreOnPaths says promise 4 with the functions alone.
func TestAncestorsAreOnPaths(t *testing.T) {
	for _, g := range append(fewAreas(6), largeGeos()...) {
		for i := range g.Parents {
			path, ok := impl.PathTo(g, i)
			depth, depthOK := impl.DepthOf(g, i)
			if !ok || !depthOK || len(path) != depth+1 {
				t.Error("PathTo and DepthOf", g, i, path, depth)
			}
			for level, area := range path {
				ancestor, ok := impl.AncestorAt(g, i, level)
				expectInt(t, fmt.Sprint("AncestorAt ", g, i, level), ancestor, ok, area, true)
				meet, ok := impl.MeetOf(g, i, area)
				expectInt(t, fmt.Sprint("MeetOf ", g, i, area), meet, ok, area, true)
			}
		}
	}
}

func TestSumsUp(t *testing.T) {
	r := rand.New(rand.NewSource(42))
	for _, g := range append(fewAreas(6), largeGeos()...) {
		n := len(g.Parents)
		most, least := slices.Repeat([]int{1000000}, n), slices.Repeat([]int{-1000000}, n)
		for _, values := range [][]int{make([]int, n), most, least, randomNumbers(r, n), randomNumbers(r, n)} {
			sums, ok := impl.SumsUp(g, values)
			expectInts(t, fmt.Sprint("SumsUp ", g, values), sums, ok, sumsOf(g, values), true)
			for i := range sums {
				for _, child := range childrenOf(g, i) {
					sums[i] -= sums[child]
				}
			}
			expectInts(t, fmt.Sprint("what SumsUp adds to the children ", g), sums, ok, values, true)
		}
	}
}

func TestSumsUpExamples(t *testing.T) {
	cases := []struct {
		g            impl.Geo
		values, want []int
	}{
		{tree(0, 1, 2), []int{1, 10, 100, 1000}, []int{1111, 1110, 1100, 1000}},
		{tree(0, 0, 0), []int{1, 10, 100, 1000}, []int{1111, 10, 100, 1000}},
		{tree(0, 0, 2), []int{1, 10, 100, 1000}, []int{1111, 10, 1100, 1000}},
		{tree(0, 0, 1), []int{-1, -10, 100, -1000}, []int{-911, -1010, 100, -1000}},
		{tree(0, 0), []int{5, 1000000, -1000000}, []int{5, 1000000, -1000000}},
		{tree(0), []int{-1000000, -1000000}, []int{-2000000, -1000000}},
	}
	for _, c := range cases {
		sums, ok := impl.SumsUp(c.g, c.values)
		expectInts(t, fmt.Sprint("SumsUp ", c.g, c.values), sums, ok, c.want, true)
	}
}

func TestSumsUpRefuses(t *testing.T) {
	for _, g := range []impl.Geo{tree(), tree(0, 0, 1, 1), chain(30), star(30)} {
		n := len(g.Parents)
		for length := range 65 {
			sums, ok := impl.SumsUp(g, make([]int, length))
			if length != n {
				expectInts(t, fmt.Sprint("SumsUp ", g, " of values ", length), sums, ok, nil, false)
			} else {
				expectInts(t, fmt.Sprint("SumsUp ", g), sums, ok, make([]int, n), true)
			}
		}
		for place := range n {
			for _, value := range []int{1000001, -1000001, 1000000, -1000000, 2000000, 1 << 32, -1 << 32, math.MaxInt, math.MinInt, math.MinInt + 1} {
				values := make([]int, n)
				values[place] = value
				want, good := sumsOf(g, values), value == 1000000 || value == -1000000
				if !good {
					want = nil
				}
				sums, ok := impl.SumsUp(g, values)
				expectInts(t, fmt.Sprint("SumsUp ", g, values), sums, ok, want, good)
			}
		}
	}
}
