package tests

import (
	"fmt"
	"math/rand"
	"slices"
	"testing"

	"loop.example/g00908/impl"
)

// checkJoin joins two tables in both orders.
func checkJoin(t *testing.T, g impl.Geo, s []impl.Variable, a, b impl.Table) {
	t.Helper()
	want, wantOK := joinIn(g, s, a, b)
	join, ok := impl.JoinTables(g, s, a, b)
	expectTable(t, fmt.Sprint("JoinTables ", g, s, a, b), join, ok, want, wantOK)
	join, ok = impl.JoinTables(g, s, b, a)
	expectTable(t, fmt.Sprint("JoinTables ", g, s, b, a), join, ok, want, wantOK)
}

func TestJoinTablesExamples(t *testing.T) {
	g, s := tree(0, 0), schemaOf("sex2", "age3")
	for _, c := range []struct{ a, b, want string }{
		{"count level 0 by sex", "count level 1 where age=1", "count level 1 by sex,age"},
		{"count level 0", "count level 0", "count level 0"}, {"count level 1 by age", "count level 1 by age", "count level 1 by age"}, {"sum age level 1 by sex where age=1,2", "sum age level 1 by sex where age=1,2", "sum age level 1 by sex where age=1,2"},
		{"count level 0", "count level 1", "count level 1"}, {"count level 1 by sex", "count level 0 by age", "count level 1 by sex,age"}, {"count level 0 by sex,age", "count level 0 by age", "count level 0 by sex,age"},
		{"count level 0 where age=1", "count level 0", "count level 0 by age"}, {"count level 0 where age=1", "count level 0 where age=2", "count level 0 by age where age=1,2"}, {"count level 0 where age=0,1", "count level 0 where age=1,2", "count level 0 by age"}, {"count level 0 where age=0", "count level 0 where age=0", "count level 0 where age=0"}, {"count level 0 where age=0", "count level 0 by age where age=0", "count level 0 by age where age=0"}, {"count level 0 where age=0", "count level 0 where age=0,2", "count level 0 by age where age=0,2"},
		{"count level 0 where age=0,1,2", "count level 0", "count level 0"}, {"count level 0 where age=0,1,2", "count level 0 where age=0,1,2", "count level 0"}, {"count level 0 by sex where sex=0", "count level 1 by sex where sex=1 age=0,1,2", "count level 1 by sex"}, // all levels are no condition
		{"count level 0 where sex=0", "count level 0 where sex=0 age=2", "count level 0 by age where sex=0"}, {"count level 0 where sex=0", "count level 0 where age=2", "count level 0 by sex,age"}, {"count level 0 where sex=0 age=0", "count level 0 where sex=1 age=2", "count level 0 by sex,age where age=0,2"},
		{"sum age level 0", "count level 0", "count level 0 by age"}, {"sum age level 0", "sum sex level 0", "count level 0 by sex,age"}, {"sum age level 0 by sex", "count level 1 by sex", "count level 1 by sex,age"}, {"sum age level 0", "sum age level 1 by sex", "sum age level 1 by sex"}, {"sum age level 0 by age", "count level 0 by age", "count level 0 by age"}, {"sum sex level 0 where age=1", "count level 0 where age=1", "count level 0 by sex where age=1"}, {"sum sex level 0 where sex=1", "count level 0 where sex=1", "count level 0 by sex where sex=1"}, {"sum age level 0 where age=1", "sum age level 0 where age=2", "sum age level 0 by age where age=1,2"},
	} {
		a, b, want := written(g, s, c.a), written(g, s, c.b), written(g, s, c.want)
		join, ok := impl.JoinTables(g, s, a, b)
		expectTable(t, fmt.Sprintf("JoinTables %q %q", c.a, c.b), join, ok, want, true)
		join, ok = impl.JoinTables(g, s, b, a)
		expectTable(t, fmt.Sprintf("JoinTables %q %q", c.b, c.a), join, ok, want, true)
		checkJoin(t, g, s, a, b)
	}
}

// TestJoinTablesOfLevels fails where a leaf is above one level and not above the
// other.
func TestJoinTablesOfLevels(t *testing.T) {
	s := schemaOf("b2")
	uneven, deep := tree(0, 0, 1, 1), tree(0, 0, 0, 2, 4)
	for _, c := range []struct {
		g     impl.Geo
		level int
		other int
		ok    bool
	}{
		{uneven, 0, 1, true}, {uneven, 0, 2, false}, {uneven, 1, 2, false}, {uneven, 2, 2, true},
		{deep, 0, 1, true}, {deep, 0, 2, false}, {deep, 0, 3, false}, {deep, 1, 2, false}, {deep, 1, 3, false}, {deep, 2, 3, true}, {deep, 3, 3, true},
		{chain(30), 0, 29, true}, {chain(30), 13, 14, true},
	} {
		a, b, want := countTable(s, c.level), countTable(s, c.other), impl.Table{}
		if c.ok {
			want = b
		}
		join, ok := impl.JoinTables(c.g, s, a, b)
		expectTable(t, fmt.Sprint("JoinTables ", c.g, a, b), join, ok, want, c.ok)
	}
	for _, g := range append(fewAreas(5), largeGeos()...) {
		for level := range depthIn(g) + 1 {
			for other := range level + 1 {
				checkJoin(t, g, s, countTable(s, level), countTable(s, other))
				checkJoin(t, g, s, countTable(s, level, 0), impl.Table{Level: other, Where: []int{2}})
			}
		}
	}
}

func TestJoinAllSmallTables(t *testing.T) { checkSmallPairs(t, checkJoin) }

func TestJoinRandomTables(t *testing.T) {
	r := rand.New(rand.NewSource(1120))
	for _, g := range append(largeGeos(), unevenGeos()...) {
		for _, s := range append(smallSchemas(), largestSchema(), randomSchema(r)) {
			for range 3 {
				u := randomTable(r, g, s)
				checkJoin(t, g, s, u, u)
				checkJoin(t, g, s, u, randomTable(r, g, s))
				checkJoin(t, g, s, u, weaker(r, g, s, u))
				checkJoin(t, g, s, u, otherWriting(r, s, u))
				checkJoin(t, g, s, u, changedTable(r, g, s, u))
				checkJoin(t, g, s, weaker(r, g, s, u), weaker(r, g, s, u))
			}
		}
	}
}

// TestJoinTablesCountsCells has joins with 580, 600, 608 and more cells. A table
// may have all variables, so that none has too many Vars.
func TestJoinTablesCountsCells(t *testing.T) {
	for _, c := range []struct {
		g    impl.Geo
		s    []impl.Variable
		a, b []int // the Vars
		ok   bool
	}{
		{star(30), schemaOf("a4", "b5"), []int{0}, []int{1}, true},        // 580
		{star(26), schemaOf("a4", "b6"), []int{0}, []int{1}, true},        // 600
		{star(20), schemaOf("a4", "b8"), []int{0}, []int{1}, false},       // 608
		{star(30), schemaOf("a3", "b7"), []int{0}, []int{1}, false},       // 609
		{star(30), schemaOf("a8", "b8"), []int{0}, []int{1}, false},       // 1856
		{tree(), schemaOf("a8", "b8", "c8"), []int{0, 1}, []int{2}, true}, // 512
		{tree(), schemaOf("a5", "b5", "c5", "d5"), []int{0, 1, 3}, []int{0, 2}, false},
		{tree(), schemaOf("a2", "b3", "c4", "d5", "e5"), []int{0, 2, 4}, []int{1, 3}, true}, // 600
		{tree(), schemaOf("a2", "b2", "c2", "d2", "e2", "f2"), []int{0, 2, 4}, []int{1, 3, 5}, true},
		{tree(), largestSchema(), []int{0, 2, 4}, []int{1, 3, 5}, false},
	} {
		level := depthIn(c.g)
		a, b, want := countTable(c.s, level, c.a...), countTable(c.s, level, c.b...), impl.Table{}
		if c.ok {
			vars := slices.Concat(c.a, c.b)
			slices.Sort(vars)
			want = countTable(c.s, level, vars...)
		}
		join, ok := impl.JoinTables(c.g, c.s, a, b)
		expectTable(t, fmt.Sprint("JoinTables ", c.g, c.s, a, b), join, ok, want, c.ok)
		checkJoin(t, c.g, c.s, a, b)
	}
	// A condition or a Sum that differs makes the join larger than both.
	g, s := star(20), schemaOf("a8", "b4")
	one, other := countTable(s, 1, 0), countTable(s, 1, 0)
	one.Where, other.Where = []int{0, 1}, []int{0, 1}
	join, ok := impl.JoinTables(g, s, one, other)
	expectTable(t, "JoinTables of equal conditions", join, ok, one, true)
	other.Where = []int{0, 2}
	join, ok = impl.JoinTables(g, s, one, other)
	expectTable(t, "JoinTables of different conditions", join, ok, impl.Table{}, false)
	other = one
	other.Sum = 1
	join, ok = impl.JoinTables(g, s, one, other)
	expectTable(t, "JoinTables of different Sums", join, ok, impl.Table{}, false)
	other.Sum = 0
	join, ok = impl.JoinTables(g, s, one, other)
	expectTable(t, "JoinTables of a Sum that is crossed", join, ok, one, true)
}

// TestTablesFollowFromTheirJoin derives the cells of both tables from those that
// are counted for the join.
func TestTablesFollowFromTheirJoin(t *testing.T) {
	r := rand.New(rand.NewSource(1121))
	joined := 0
	for range 600 {
		g, s := randomGeo(r, 1+r.Intn(10), 1+r.Intn(3)), randomSchema(r)
		a := randomTable(r, g, s)
		b, l := changedTable(r, g, s, weaker(r, g, s, a)), randomSurvey(r, g, s, 30)
		join, ok := impl.JoinTables(g, s, a, b)
		if !ok {
			continue
		}
		joined++
		q := newTabulation(g, s, join)
		for _, u := range []impl.Table{a, b} {
			follows, ok := impl.FollowsFrom(g, s, u, join)
			expectBool(t, fmt.Sprint("FollowsFrom the join ", g, s, u, join), follows, ok, true, true)
			checkCounted(t, newTabulation(g, s, u), q, l)
		}
	}
	if joined < 200 {
		t.Error("few joins", joined)
	}
}
