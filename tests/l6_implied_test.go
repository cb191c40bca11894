package tests

import (
	"fmt"
	"math/rand"
	"slices"
	"testing"

	"loop.example/g00908/impl"
)

// checkResolved resolves two edits with each variable.
func checkResolved(t *testing.T, s []impl.Variable, e, f impl.Edit) {
	t.Helper()
	for v := range s {
		got, ok := impl.ResolveEdits(s, e, f, v)
		want, wantOK := resolvedOf(s, e, f, v)
		expectEdit(t, fmt.Sprint("ResolveEdits ", s, e, f, v), got, ok, want, wantOK)
	}
}

func TestResolveEditsExamples(t *testing.T) {
	s := schemaOf("sex2", "age3", "b2")
	for _, c := range []struct {
		e, f impl.Edit
		v    int
		want impl.Edit
		ok   bool
	}{
		{edit(1, 6, 3), edit(2, 4, 3), 0, edit(3, 4, 3), true},
		{edit(1, 6, 3), edit(2, 4, 3), 1, impl.Edit{}, false},
		{edit(1, 6, 3), edit(2, 4, 3), 2, impl.Edit{}, false},
		{edit(1, 6, 3), edit(1, 1, 3), 1, edit(1, 7, 3), true},
		{edit(1, 6, 3), edit(1, 1, 3), 0, impl.Edit{}, false},
		{edit(3, 5, 1), edit(3, 3, 2), 2, edit(3, 1, 3), true},
		{edit(3, 5, 1), edit(2, 3, 2), 2, edit(2, 1, 3), true},
		{edit(3, 5, 1), edit(2, 2, 1), 1, edit(2, 7, 1), true},
		{edit(3, 5, 1), edit(2, 2, 2), 1, impl.Edit{}, false},
		{edit(1, 1, 1), edit(2, 2, 2), 0, impl.Edit{}, false},
		{edit(1, 1, 1), edit(2, 2, 2), 1, impl.Edit{}, false},
		{edit(1, 1, 1), edit(2, 2, 2), 2, impl.Edit{}, false},
		{edit(3, 7, 3), edit(3, 7, 3), 1, edit(3, 7, 3), true},
		{edit(2, 4, 1), edit(2, 4, 1), 1, edit(2, 4, 1), true},
		{edit(2, 4, 1), edit(3, 7, 3), 1, edit(2, 7, 1), true},
		{edit(2, 4, 1), edit(3, 7, 3), 2, edit(2, 4, 3), true},
	} {
		got, ok := impl.ResolveEdits(s, c.e, c.f, c.v)
		expectEdit(t, fmt.Sprint("ResolveEdits ", c.e, c.f, c.v), got, ok, c.want, c.ok)
		got, ok = impl.ResolveEdits(s, c.f, c.e, c.v)
		expectEdit(t, fmt.Sprint("ResolveEdits ", c.f, c.e, c.v), got, ok, c.want, c.ok)
	}
}

func TestResolveAllPairs(t *testing.T) {
	for _, s := range [][]impl.Variable{schemaOf("b2"), schemaOf("c3"), schemaOf("b2", "a2"), schemaOf("sex2", "age3"), schemaOf("a2", "b2", "c2")} {
		for _, e := range allEdits(s) {
			for _, f := range allEdits(s) {
				checkResolved(t, s, e, f)
			}
		}
	}
}

// TestResolvedEditsAreImplied says it with the functions alone.
func TestResolvedEditsAreImplied(t *testing.T) {
	r := rand.New(rand.NewSource(61))
	for _, s := range fewCombinations() {
		for range 50 {
			e, f := randomEdit(r, s), randomEdit(r, s)
			checkResolved(t, s, e, f)
			for v := range s {
				resolved, ok := impl.ResolveEdits(s, e, f, v)
				if !ok {
					continue
				}
				implied, ok := impl.IsImplied(s, []impl.Edit{e, f}, resolved)
				expectBool(t, fmt.Sprint("IsImplied ", s, e, f, resolved), implied, ok, true, true)
			}
		}
	}
}

func TestResolveEditsRefusesVariables(t *testing.T) {
	for _, s := range fewCombinations() {
		e, f := editOfAll(s), editOfValues(make([]int, len(s)))
		for _, v := range wrongVariables(s) {
			for _, pair := range [][]impl.Edit{{e, e}, {e, f}, {f, e}, {f, f}} {
				got, ok := impl.ResolveEdits(s, pair[0], pair[1], v)
				expectEdit(t, fmt.Sprint("ResolveEdits ", s, pair, v), got, ok, impl.Edit{}, false)
			}
		}
	}
}

func TestResolveEditsRefusesEdits(t *testing.T) {
	for _, s := range fewCombinations() {
		for _, bad := range wrongEdits(s) {
			for v := range s {
				for _, good := range []impl.Edit{editOfAll(s), editOfValues(make([]int, len(s))), bad} {
					got, ok := impl.ResolveEdits(s, bad, good, v)
					expectEdit(t, fmt.Sprint("ResolveEdits ", s, bad, good, v), got, ok, impl.Edit{}, false)
					got, ok = impl.ResolveEdits(s, good, bad, v)
					expectEdit(t, fmt.Sprint("ResolveEdits ", s, good, bad, v), got, ok, impl.Edit{}, false)
				}
			}
		}
	}
}

func TestIsImpliedExamples(t *testing.T) {
	s := schemaOf("sex2", "age3")
	l := []impl.Edit{edit(1, 6), edit(2, 4)}
	for _, c := range []struct {
		l    []impl.Edit
		e    impl.Edit
		want bool
	}{
		{l, edit(1, 6), true},
		{l, edit(2, 4), true},
		{l, edit(3, 4), true},
		{l[:1], edit(3, 4), false},
		{l[1:], edit(3, 4), false},
		{l, edit(1, 2), true},
		{l, edit(1, 4), true},
		{l, edit(1, 1), false},
		{l, edit(1, 7), false},
		{l, edit(3, 2), false},
		{l, edit(3, 6), false},
		{l, edit(3, 7), false},
		{nil, edit(1, 1), false},
		{nil, edit(3, 7), false},
		{[]impl.Edit{edit(3, 7)}, edit(3, 7), true},
		{[]impl.Edit{edit(3, 7)}, edit(1, 1), true},
		{[]impl.Edit{edit(3, 1), edit(3, 2), edit(3, 4)}, edit(3, 7), true},
		{[]impl.Edit{edit(3, 1), edit(3, 2), edit(3, 4)}, edit(2, 5), true},
		{[]impl.Edit{edit(3, 1), edit(3, 2), edit(2, 4)}, edit(2, 7), true},
		{[]impl.Edit{edit(3, 1), edit(3, 2), edit(2, 4)}, edit(3, 7), false},
		{[]impl.Edit{edit(1, 1), edit(1, 2), edit(1, 4), edit(2, 1), edit(2, 2), edit(2, 4)}, edit(3, 7), true},
		{[]impl.Edit{edit(1, 1), edit(1, 2), edit(1, 4), edit(2, 1), edit(2, 2)}, edit(3, 7), false},
		{[]impl.Edit{edit(1, 1), edit(1, 2), edit(1, 4), edit(2, 1), edit(2, 2)}, edit(3, 3), true},
	} {
		got, ok := impl.IsImplied(s, c.l, c.e)
		expectBool(t, fmt.Sprint("IsImplied ", c.l, c.e), got, ok, c.want, true)
	}
}

// TestImpliedBySeveralTogether leaves out each of the edits of which all are
// needed.
func TestImpliedBySeveralTogether(t *testing.T) {
	for _, s := range fewCombinations() {
		for i, v := range s {
			var l []impl.Edit
			for level := range v.Levels {
				e := editOfAll(s)
				e.Sets[i] = setOf(level)
				l = append(l, e)
			}
			implied, ok := impl.IsImplied(s, l, editOfAll(s))
			expectBool(t, fmt.Sprint("IsImplied ", s, l), implied, ok, true, true)
			for k := range l {
				fewer := slices.Delete(slices.Clone(l), k, k+1)
				implied, ok = impl.IsImplied(s, fewer, editOfAll(s))
				expectBool(t, fmt.Sprint("IsImplied ", s, fewer), implied, ok, false, true)
				implied, ok = impl.IsImplied(s, fewer, l[k])
				expectBool(t, fmt.Sprint("IsImplied ", s, fewer, l[k]), implied, ok, false, true)
				implied, ok = impl.IsImplied(s, l[k:k+1], l[k])
				expectBool(t, fmt.Sprint("IsImplied ", s, l[k]), implied, ok, true, true)
			}
		}
	}
}

// TestImpliedButForOneList has edits that all values fail but one list: just
// the edits that this list fails are not implied.
func TestImpliedButForOneList(t *testing.T) {
	r := rand.New(rand.NewSource(62))
	for _, s := range fewCombinations() {
		for _, values := range listsOfValues(s) {
			l := editsBut(s, values)
			for range 5 {
				e := randomEdit(r, s)
				implied, ok := impl.IsImplied(s, l, e)
				expectBool(t, fmt.Sprint("IsImplied ", s, l, e), implied, ok, !forbids(e, values), true)
			}
			implied, ok := impl.IsImplied(s, l, editOfValues(values))
			expectBool(t, fmt.Sprint("IsImplied ", s, l, values), implied, ok, false, true)
		}
	}
}

func TestIsImpliedRefusesEdits(t *testing.T) {
	for _, s := range fewCombinations() {
		for _, bad := range wrongEdits(s) {
			for _, l := range [][]impl.Edit{nil, {editOfAll(s)}, {bad}, {editOfAll(s), bad}} {
				implied, ok := impl.IsImplied(s, l, bad)
				expectBool(t, fmt.Sprint("IsImplied ", s, l, bad), implied, ok, false, false)
			}
		}
	}
}

func TestWithoutContainedExamples(t *testing.T) {
	s := schemaOf("sex2", "age3")
	for _, c := range []struct{ l, want []impl.Edit }{
		{nil, nil},
		{[]impl.Edit{}, nil},
		{[]impl.Edit{edit(1, 6)}, []impl.Edit{edit(1, 6)}},
		{[]impl.Edit{edit(1, 6), edit(1, 6)}, []impl.Edit{edit(1, 6)}},
		{[]impl.Edit{edit(2, 4), edit(1, 6)}, []impl.Edit{edit(1, 6), edit(2, 4)}},
		{[]impl.Edit{edit(1, 6), edit(1, 5)}, []impl.Edit{edit(1, 5), edit(1, 6)}},
		{[]impl.Edit{edit(3, 4), edit(2, 7), edit(1, 6)}, []impl.Edit{edit(1, 6), edit(2, 7), edit(3, 4)}},
		{[]impl.Edit{edit(1, 4), edit(1, 6)}, []impl.Edit{edit(1, 6)}},
		{[]impl.Edit{edit(1, 6), edit(1, 4)}, []impl.Edit{edit(1, 6)}},
		{[]impl.Edit{edit(1, 4), edit(1, 6), edit(1, 4), edit(1, 6)}, []impl.Edit{edit(1, 6)}},
		{[]impl.Edit{edit(1, 1), edit(1, 3), edit(1, 7), edit(3, 7)}, []impl.Edit{edit(3, 7)}},
		{[]impl.Edit{edit(3, 7), edit(1, 7), edit(1, 3), edit(1, 1)}, []impl.Edit{edit(3, 7)}},
		{[]impl.Edit{edit(1, 3), edit(2, 3), edit(3, 1), edit(3, 2)}, []impl.Edit{edit(1, 3), edit(2, 3), edit(3, 1), edit(3, 2)}},
		{[]impl.Edit{edit(1, 1), edit(2, 1), edit(1, 2), edit(2, 2)}, []impl.Edit{edit(1, 1), edit(1, 2), edit(2, 1), edit(2, 2)}},
		{[]impl.Edit{edit(1, 1), edit(2, 3), edit(1, 2), edit(2, 2)}, []impl.Edit{edit(1, 1), edit(1, 2), edit(2, 3)}},
	} {
		got, ok := impl.WithoutContained(s, c.l)
		expectEdits(t, fmt.Sprint("WithoutContained ", c.l), got, ok, c.want, true)
	}
}

func TestWithoutContainedOfRandomLists(t *testing.T) {
	r := rand.New(rand.NewSource(63))
	for _, s := range fewCombinations() {
		for n := range 41 {
			l := randomEdits(r, s, n)
			got, ok := impl.WithoutContained(s, l)
			expectEdits(t, fmt.Sprint("WithoutContained ", s, l), got, ok, withoutContainedOf(l), true)
		}
	}
}

// TestWithoutContainedKeepsMostEdits has MaxEdits edits of which none contains
// another, in all orders of a rotation.
func TestWithoutContainedKeepsMostEdits(t *testing.T) {
	s := schemaOf("a8", "b8")
	var l []impl.Edit
	for i := range 5 {
		for k := range 8 {
			l = append(l, editOfValues([]int{i, k}))
		}
	}
	for range 40 {
		l = append(l[1:], l[0])
		got, ok := impl.WithoutContained(s, l)
		expectEdits(t, fmt.Sprint("WithoutContained ", l), got, ok, withoutContainedOf(l), true)
		if len(got) != 40 {
			t.Error("WithoutContained", len(got))
		}
	}
}

func TestWithoutContainedAfterMeetsOfItsEdits(t *testing.T) {
	r := rand.New(rand.NewSource(64))
	for _, s := range fewCombinations() {
		for range 20 {
			l := randomEdits(r, s, 1+r.Intn(15))
			want, ok := impl.WithoutContained(s, l)
			expectEdits(t, fmt.Sprint("WithoutContained ", s, l), want, ok, withoutContainedOf(l), true)
			more := slices.Clone(l)
			for len(more) < 40 {
				meet, ok := impl.MeetEdits(s, l[r.Intn(len(l))], l[r.Intn(len(l))])
				if ok {
					more = slices.Insert(more, r.Intn(len(more)+1), meet)
				}
			}
			got, ok := impl.WithoutContained(s, more)
			expectEdits(t, fmt.Sprint("WithoutContained ", s, more), got, ok, want, true)
		}
	}
}
