package tests

import (
	"fmt"
	"math"
	"math/rand"
	"regexp"
	"slices"
	"strconv"
	"strings"
	"testing"

	"loop.example/g00908/impl"
)

var partForm = regexp.MustCompile(`\A([a-z]+)=([0-7](,[0-7])*)\z`)

// setsOf returns all sets of a variable that are not empty, as numbers. Each
// level is added to the sets without it.
func setsOf(levels int) []int {
	sets, power := []int{0}, 1
	for range levels {
		for _, set := range slices.Clone(sets) {
			sets = append(sets, set+power)
		}
		power += power
	}
	return sets[1:]
}

// levelsOfSet reads the levels of a set from the binary digits of its number.
func levelsOfSet(set int) []int {
	var levels []int
	digits := strconv.FormatInt(int64(set), 2)
	for level := range len(digits) {
		if digits[len(digits)-1-level] == '1' {
			levels = append(levels, level)
		}
	}
	return levels
}

// setOf returns the set of some levels.
func setOf(levels ...int) int {
	set := 0
	for _, level := range levels {
		power := 1
		for range level {
			power += power
		}
		set += power
	}
	return set
}

// editIsGood says whether an edit is valid for a valid schema.
func editIsGood(s []impl.Variable, e impl.Edit) bool {
	good := len(e.Sets) == len(s)
	for i := 0; good && i < len(s); i++ {
		good = slices.Contains(setsOf(s[i].Levels), e.Sets[i])
	}
	return good
}

// editsAreGood says whether a list is one of edits for a valid schema.
func editsAreGood(s []impl.Variable, l []impl.Edit) bool {
	for _, e := range l {
		if !editIsGood(s, e) {
			return false
		}
	}
	return len(l) < 41
}

// forbids says what FailsEdit must say.
func forbids(e impl.Edit, values []int) bool {
	for i, x := range values {
		if !slices.Contains(levelsOfSet(e.Sets[i]), x) {
			return false
		}
	}
	return true
}

// failedOf says what FailedEdits must return.
func failedOf(l []impl.Edit, values []int) []int {
	var failed []int
	for i, e := range l {
		if forbids(e, values) {
			failed = append(failed, i)
		}
	}
	return failed
}

// failingOf returns the lists of values that fail an edit, in lexicographic
// order: one level of each set in all ways.
func failingOf(e impl.Edit) [][]int {
	lists := [][]int{{}}
	for _, set := range e.Sets {
		var longer [][]int
		for _, values := range lists {
			for _, level := range levelsOfSet(set) {
				longer = append(longer, append(slices.Clone(values), level))
			}
		}
		lists = longer
	}
	return lists
}

// passingOf returns the lists of values that fail no edit, in lexicographic
// order: all of them without those that fail one.
func passingOf(s []impl.Variable, l []impl.Edit) [][]int {
	failing := map[string]bool{}
	for _, e := range l {
		for _, values := range failingOf(e) {
			failing[fmt.Sprint(values)] = true
		}
	}
	var passing [][]int
	for _, values := range listsOfValues(s) {
		if !failing[fmt.Sprint(values)] {
			passing = append(passing, values)
		}
	}
	return passing
}

// involvedOf says what InvolvedIn must return.
func involvedOf(s []impl.Variable, e impl.Edit) []int {
	var involved []int
	for i, v := range s {
		if len(levelsOfSet(e.Sets[i])) < v.Levels {
			involved = append(involved, i)
		}
	}
	return involved
}

// containsOf says what ContainsEdit must say.
func containsOf(e, f impl.Edit) bool {
	for _, values := range failingOf(f) {
		if !forbids(e, values) {
			return false
		}
	}
	return true
}

// meetOfEdits says what MeetEdits must return: it looks which values fail both,
// and which levels these have.
func meetOfEdits(e, f impl.Edit) (impl.Edit, bool) {
	levels := make([][]int, len(e.Sets))
	for _, values := range failingOf(e) {
		if !forbids(f, values) {
			continue
		}
		for i, x := range values {
			if !slices.Contains(levels[i], x) {
				levels[i] = append(levels[i], x)
			}
		}
	}
	if levels[0] == nil {
		return impl.Edit{}, false
	}
	var meet impl.Edit
	for _, l := range levels {
		meet.Sets = append(meet.Sets, setOf(l...))
	}
	return meet, true
}

// failureCountsOf says what FailureCounts must return.
func failureCountsOf(l []impl.Edit, data []impl.Record) []int {
	counts := make([]int, len(l))
	for _, r := range data {
		for _, i := range failedOf(l, r.Values) {
			counts[i]++
		}
	}
	return counts
}

// textOfEdit says what EditText must return.
func textOfEdit(s []impl.Variable, e impl.Edit) string {
	text := ""
	for _, i := range involvedOf(s, e) {
		text += " " + s[i].Name
		sign := "="
		for _, level := range levelsOfSet(e.Sets[i]) {
			text += sign + fmt.Sprint(level)
			sign = ","
		}
	}
	if text == "" {
		return "all"
	}
	return text[1:]
}

// editOfText says what ParseEdit must return for a valid schema.
func editOfText(s []impl.Variable, text string) (impl.Edit, bool) {
	var e impl.Edit
	for _, v := range s {
		sets := setsOf(v.Levels)
		e.Sets = append(e.Sets, sets[len(sets)-1])
	}
	if text == "all" {
		return e, true
	}
	last := -1
	for _, part := range strings.Split(text, " ") {
		form := partForm.FindStringSubmatch(part)
		if form == nil {
			return impl.Edit{}, false
		}
		i := slices.IndexFunc(s, func(v impl.Variable) bool { return v.Name == form[1] })
		var levels []int
		for _, c := range form[2] {
			if c != ',' {
				levels = append(levels, int(c-'0'))
			}
		}
		rising := slices.IsSorted(levels) && len(slices.Compact(slices.Clone(levels))) == len(levels)
		if i <= last || !rising || levels[len(levels)-1] >= s[i].Levels || len(levels) == s[i].Levels {
			return impl.Edit{}, false
		}
		e.Sets[i] = setOf(levels...)
		last = i
	}
	return e, true
}

// edit returns an edit.
func edit(sets ...int) impl.Edit { return impl.Edit{Sets: sets} }

// editOfAll returns the edit in which no variable is involved.
func editOfAll(s []impl.Variable) impl.Edit {
	e, _ := editOfText(s, "all")
	return e
}

// editOfValues returns the edit that the values alone fail.
func editOfValues(values []int) impl.Edit {
	var e impl.Edit
	for _, x := range values {
		e.Sets = append(e.Sets, setOf(x))
	}
	return e
}

// editsBut returns edits that all values fail but the given ones.
func editsBut(s []impl.Variable, values []int) []impl.Edit {
	var l []impl.Edit
	for i, x := range values {
		e := editOfAll(s)
		e.Sets[i] -= setOf(x)
		l = append(l, e)
	}
	return l
}

// allEdits returns all edits for a schema.
func allEdits(s []impl.Variable) []impl.Edit {
	all := []impl.Edit{{}}
	for _, v := range s {
		var longer []impl.Edit
		for _, e := range all {
			for _, set := range setsOf(v.Levels) {
				longer = append(longer, impl.Edit{Sets: append(slices.Clone(e.Sets), set)})
			}
		}
		all = longer
	}
	return all
}

// randomEdit returns an edit for a schema. Sets of all levels occur often.
func randomEdit(r *rand.Rand, s []impl.Variable) impl.Edit {
	e := editOfAll(s)
	for i, v := range s {
		if r.Intn(3) > 0 {
			sets := setsOf(v.Levels)
			e.Sets[i] = sets[r.Intn(len(sets))]
		}
	}
	return e
}

// randomEdits returns n edits for a schema. Most of them are small and some are
// equal.
func randomEdits(r *rand.Rand, s []impl.Variable, n int) []impl.Edit {
	l := make([]impl.Edit, n)
	for i := range l {
		l[i] = randomEdit(r, s)
		if i > 0 && r.Intn(4) == 0 {
			l[i] = impl.Edit{Sets: slices.Clone(l[r.Intn(i)].Sets)}
		} else if r.Intn(3) > 0 {
			l[i].Sets[r.Intn(len(s))] = 1
			l[i].Sets[r.Intn(len(s))] = 2
		}
	}
	return l
}

// wrongEdits returns edits that are not ones for a valid schema.
func wrongEdits(s []impl.Variable) []impl.Edit {
	good := editOfAll(s).Sets
	l := []impl.Edit{{}, {Sets: []int{}}, {Sets: good[1:]}, {Sets: good[:len(s)-1]}, {Sets: make([]int, len(s))}, {Sets: slices.Repeat([]int{1}, 1000)}}
	for _, extra := range []int{0, 1, 3, -1} {
		l = append(l, impl.Edit{Sets: append(slices.Clone(good), extra)}, impl.Edit{Sets: append([]int{extra}, good...)})
	}
	for i, v := range s {
		next := setOf(v.Levels)
		for _, set := range []int{0, -1, -2, -3, -next, next, next + 1, 2*next - 1, 2 * next, 512, 1 << 32, 1<<32 + 1, math.MaxInt, math.MaxInt - 1, math.MinInt, math.MinInt + 1, math.MinInt + 3} {
			bad := slices.Clone(good)
			bad[i] = set
			l = append(l, impl.Edit{Sets: bad})
		}
	}
	return l
}

// wrongLists returns lists that are not ones of edits for a valid schema: a
// wrong edit among good ones, and too many edits.
func wrongLists(s []impl.Variable) [][]impl.Edit {
	good := []impl.Edit{editOfAll(s), editOfValues(make([]int, len(s)))}
	var l [][]impl.Edit
	for i, e := range wrongEdits(s) {
		l = append(l, slices.Insert(slices.Clone(good), i%3, e), []impl.Edit{e})
	}
	for _, n := range []int{41, 42, 80, 2000} {
		l = append(l, slices.Repeat(good[1:], n))
	}
	return append(l, append(slices.Repeat(good, 20), good[1]))
}

func expectEdit(t *testing.T, call string, got impl.Edit, ok bool, want impl.Edit, wantOK bool) {
	t.Helper()
	if !slices.Equal(got.Sets, want.Sets) || ok != wantOK {
		t.Errorf("%.200s is %v %v, not %v %v", call, got, ok, want, wantOK)
	}
}

func TestEditLimits(t *testing.T) {
	if impl.MaxEdits != 40 {
		t.Error("limits", impl.MaxEdits)
	}
}

func TestOracleKnowsEdits(t *testing.T) {
	if sets := setsOf(3); !slices.Equal(sets, []int{1, 2, 3, 4, 5, 6, 7}) {
		t.Error("sets of three levels", sets)
	}
	for _, s := range [][]impl.Variable{schemaOf("b2"), schemaOf("sex2", "age3"), schemaOf("z8"), schemaOf("b2", "a2", "c3")} {
		texts := map[string]bool{}
		for _, e := range allEdits(s) {
			text := textOfEdit(s, e)
			back, ok := editOfText(s, text)
			expectEdit(t, "the oracle "+text, back, ok, e, true)
			texts[text] = true
		}
		if len(texts) != len(allEdits(s)) {
			t.Error("texts of edits", s, len(texts))
		}
	}
	r := rand.New(rand.NewSource(50))
	for _, s := range append(smallSchemas(), largestSchema()) {
		for _, e := range wrongEdits(s) {
			if editIsGood(s, e) {
				t.Error("should not be an edit", s, e)
			}
		}
		for i, l := range wrongLists(s) {
			if editsAreGood(s, l) {
				t.Error("should not be edits", s, i)
			}
		}
		if l := randomEdits(r, s, 40); !editsAreGood(s, l) {
			t.Error("should be edits", s, l)
		}
	}
}
