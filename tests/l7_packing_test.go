package tests

import (
	"fmt"
	"math/rand"
	"slices"
	"testing"

	"loop.example/g00908/impl"
)

// checkPacking compares the bound with that of all packings, and looks at the
// edits of the returned one.
func checkPacking(t *testing.T, p repair, values []int) {
	t.Helper()
	call := fmt.Sprint("PackingBound ", p.s, p.l, p.weights, values)
	want, wantPacked, wantOK := p.packingOf(values)
	bound, packed, ok := impl.PackingBound(p.s, p.l, p.weights, values)
	expectChange(t, call, packed, bound, ok, wantPacked, want, wantOK)
	if !ok {
		return
	}
	var used []int
	for _, i := range packed {
		for _, v := range involvedOf(p.s, p.maximal[i]) {
			if slices.Contains(used, v) || !forbids(p.maximal[i], values) {
				t.Errorf("%.300s is no packing: %v", call, packed)
			}
			used = append(used, v)
		}
	}
	if _, cost, found := p.changeOf(values); !found || cost < bound {
		t.Errorf("%.300s is %v, more than the cost %v", call, bound, cost)
	}
}

func TestPackingBoundExamples(t *testing.T) {
	s := schemaOf("sex2", "age3", "b2")
	l := []impl.Edit{edit(1, 6, 3), edit(2, 4, 3), edit(1, 1, 1)}
	// MaximalEdits of l are sex=0 age=1,2 and sex=0 b=0 and age=2.
	for _, c := range []struct {
		l               []impl.Edit
		weights, values []int
		bound           int
		packed          []int
	}{
		{nil, []int{1, 1, 1}, []int{0, 0, 0}, 0, nil},
		{l, []int{1, 1, 1}, []int{0, 0, 1}, 0, nil},
		{l, []int{7, 8, 9}, []int{1, 1, 0}, 0, nil},
		{l, []int{1, 5, 9}, []int{0, 0, 0}, 1, []int{1}},
		{l, []int{9, 5, 4}, []int{0, 0, 0}, 4, []int{1}},
		{l, []int{1, 5, 9}, []int{1, 2, 1}, 5, []int{2}},
		{l, []int{100, 100, 100}, []int{0, 2, 0}, 200, []int{1, 2}},
		{l, []int{1, 5, 9}, []int{0, 2, 0}, 6, []int{1, 2}},
		{l, []int{1, 5, 9}, []int{0, 1, 0}, 1, []int{0}},
		{l, []int{3, 1, 2}, []int{0, 1, 0}, 2, []int{1}},
		{l, []int{3, 2, 1}, []int{0, 1, 0}, 2, []int{0}},
		{l, []int{3, 1, 2}, []int{0, 1, 1}, 1, []int{0}},
		{l, []int{3, 1, 2}, []int{0, 2, 1}, 1, []int{0}},
		{l[:1], []int{3, 1, 2}, []int{0, 2, 1}, 1, []int{0}},
		{[]impl.Edit{edit(3, 7, 1)}, []int{3, 1, 2}, []int{0, 2, 0}, 2, []int{0}},
		{[]impl.Edit{edit(2, 7, 3), edit(3, 6, 3), edit(3, 7, 1)}, []int{100, 100, 100}, []int{1, 2, 0}, 300, []int{0, 1, 2}},
	} {
		p := newRepair(newEditTable(s), c.l, c.weights)
		bound, packed, ok := impl.PackingBound(s, c.l, c.weights, c.values)
		expectChange(t, fmt.Sprint("PackingBound ", c, p.maximal), packed, bound, ok, c.packed, c.bound, true)
		checkPacking(t, p, c.values)
	}
}

// TestFirstOfSeveralPackings has edits that fail where variables are 0. They
// are given in the order of MaximalEdits.
func TestFirstOfSeveralPackings(t *testing.T) {
	s := schemaOf("d2", "a2", "c2", "b2", "e2")
	for _, c := range []struct {
		sets    [][]int
		weights []int
		bound   int
		packed  []int
	}{
		{[][]int{{0, 1}, {1, 2}}, []int{1, 1, 1, 1, 1}, 1, []int{0}},
		{[][]int{{0, 1}, {1, 2}}, []int{1, 2, 2, 1, 1}, 2, []int{1}},
		{[][]int{{0, 1}, {1, 2}, {2, 3}}, []int{1, 1, 1, 1, 1}, 2, []int{0, 2}},
		{[][]int{{0, 1}, {1, 2}, {2, 3}, {3, 4}}, []int{1, 1, 1, 1, 1}, 2, []int{0, 2}},
		{[][]int{{0, 1}, {1, 2}, {2, 3}, {3, 4}}, []int{1, 1, 1, 5, 5}, 6, []int{0, 3}},
		{[][]int{{0, 1}, {1, 2}, {2, 3}, {3, 4}}, []int{1, 4, 4, 5, 5}, 9, []int{1, 3}},
		{[][]int{{0, 1}, {1, 2}, {2, 3}, {3, 4}}, []int{1, 4, 4, 3, 3}, 7, []int{1, 3}},
		{[][]int{{0, 1}, {0, 2}, {1, 3}}, []int{2, 2, 1, 1, 1}, 2, []int{0}},
		{[][]int{{0, 4}, {1, 2}, {2, 4}}, []int{1, 1, 2, 1, 2}, 2, []int{0, 1}},
		{[][]int{{0, 4}, {1, 2}, {2, 4}}, []int{1, 1, 3, 1, 3}, 3, []int{2}},
		{[][]int{{0, 1}, {0, 2}, {1, 2}}, []int{1, 1, 1, 1, 1}, 1, []int{0}},
		{[][]int{{0, 1}, {0, 2}, {1, 2}}, []int{1, 1, 2, 1, 1}, 1, []int{0}},
		{[][]int{{0, 1}, {0, 2}, {1, 2}}, []int{1, 2, 2, 1, 1}, 2, []int{2}},
		{[][]int{{0}, {1}, {2}, {3}, {4}}, []int{100, 100, 100, 100, 100}, 500, []int{0, 1, 2, 3, 4}},
		{[][]int{{0, 1, 2, 3, 4}}, []int{100, 100, 100, 99, 100}, 99, []int{0}},
	} {
		zero := make([]int, len(s))
		p := newRepair(newEditTable(s), editsOfZeros(s, c.sets...), c.weights)
		expectEdits(t, fmt.Sprint("the oracle ", c), p.maximal, true, p.l, true)
		bound, packed, ok := impl.PackingBound(s, p.l, c.weights, zero)
		expectChange(t, fmt.Sprint("PackingBound ", c), packed, bound, ok, c.packed, c.bound, true)
		for _, values := range listsOfValues(s) {
			checkPacking(t, p, values)
		}
	}
}

// TestPackingOfTwelve has values that fail 11, 12, 13 and more of MaximalEdits.
func TestPackingOfTwelve(t *testing.T) {
	s := schemaOf("d2", "a2", "f2", "b2", "c2", "e2")
	b, r, met := newEditTable(s), rand.New(rand.NewSource(78)), map[int]int{}
	zero := make([]int, len(s))
	for size := 2; size <= 4; size++ {
		all := setsOfSize(len(s), size)
		for _, n := range []int{11, 12, 13, 14, 15, 20} {
			for range 10 {
				r.Shuffle(len(all), func(i, k int) { all[i], all[k] = all[k], all[i] })
				p := newRepair(b, editsOfZeros(s, all[:min(n, len(all))]...), randomWeights(r, s))
				_, _, ok := impl.PackingBound(s, p.l, p.weights, zero)
				if ok != (len(p.maximal) <= 12) {
					t.Error("PackingBound", s, p.l, len(p.maximal), ok)
				}
				for _, values := range listsOfValues(s) {
					checkPacking(t, p, values)
					if len(p.maximal) > 12 {
						met[len(failedOf(p.maximal, values))]++
					}
				}
			}
		}
	}
	for _, n := range []int{0, 1, 10, 13, 20} {
		if met[n] == 0 {
			t.Error("no values fail so many of more than 12 edits", n, met)
		}
	}
}

// TestPackingOfTwelveOfMore has values that fail 12 and 13 of more maximal edits:
// one for each union of the levels of b with which some levels of a pass.
func TestPackingOfTwelveOfMore(t *testing.T) {
	for _, c := range []struct {
		s               []impl.Variable
		passing         [][]int
		maximal, failed int
	}{
		{schemaOf("a5", "b6"), [][]int{{0}, {1}, {2}, {3}, {3, 4}}, 23, 12},
		{schemaOf("a6", "b7"), [][]int{{0}, {1}, {2}, {3}, {3, 4}, {1, 2, 3, 4, 6}}, 25, 13},
	} {
		var l []impl.Edit
		for level, others := range c.passing {
			e := editOfAll(c.s)
			e.Sets[0] = setOf(level)
			e.Sets[1] -= setOf(others...)
			l = append(l, e)
		}
		b, values := newEditTable(c.s), []int{0, 5}
		for _, weights := range [][]int{{1, 1}, {1, 2}, {2, 1}, {100, 100}} {
			p := newRepair(b, l, weights)
			if n := len(failedOf(p.maximal, values)); len(p.maximal) != c.maximal || n != c.failed {
				t.Error("maximal edits", c.s, len(p.maximal), n)
			}
			_, _, ok := impl.PackingBound(c.s, l, weights, values)
			expectBool(t, fmt.Sprint("PackingBound ", c, weights), ok, ok, c.failed == 12, c.failed == 12)
			for _, values := range listsOfValues(c.s) {
				checkPacking(t, p, values)
			}
		}
	}
}

// TestPackingOfLargeSets has maximal edits with several levels of variables with
// more than two. Values at the edge fail few of them.
func TestPackingOfLargeSets(t *testing.T) {
	met, r := map[bool]int{}, rand.New(rand.NewSource(79))
	for _, s := range [][]impl.Variable{schemaOf("a5", "b5", "c4"), schemaOf("a6", "b6", "c2"), schemaOf("a8", "b8")} {
		b, l := newEditTable(s), offDiagonal(s)
		for n := range l {
			p := newRepair(b, l[n:], randomWeights(r, s))
			for range 5 {
				values := randomValues(r, s)
				checkPacking(t, p, values)
				met[len(failedOf(p.maximal, values)) > 12]++
			}
		}
	}
	if met[false] == 0 || met[true] == 0 {
		t.Error("values that fail few and many edits", met)
	}
}
