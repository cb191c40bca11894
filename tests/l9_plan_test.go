package tests

import (
	"fmt"
	"math/rand"
	"slices"
	"strings"
	"testing"

	"loop.example/g00908/impl"
)

// checkPlanText writes a plan and reads it back.
func checkPlanText(t *testing.T, g impl.Geo, s []impl.Variable, l []impl.Table) {
	t.Helper()
	text, ok := impl.PlanText(g, s, l)
	expectText(t, fmt.Sprint("PlanText ", g, s, l), text, ok, textOfPlan(s, l), true)
	back, line, ok := impl.ParsePlan(g, s, text)
	expectPlan(t, fmt.Sprintf("ParsePlan %v %v %q", g, s, text), back, line, ok, l, 0, true)
}

// checkParsePlan compares ParsePlan with the oracle, and what it returns with
// the text.
func checkParsePlan(t *testing.T, g impl.Geo, s []impl.Variable, text string) {
	t.Helper()
	want, wantLine, wantOK := planOfText(g, s, text)
	got, line, ok := impl.ParsePlan(g, s, text)
	expectPlan(t, fmt.Sprintf("ParsePlan %v %v %q", g, s, text), got, line, ok, want, wantLine, wantOK)
	if !ok {
		return
	}
	back, ok := impl.PlanText(g, s, got)
	expectText(t, fmt.Sprintf("PlanText of ParsePlan %v %v %q", g, s, text), back, ok, text, true)
}

// checkMerged merges two plans in both orders.
func checkMerged(t *testing.T, g impl.Geo, s []impl.Variable, a, b []impl.Table) {
	t.Helper()
	want, wantOK := mergedOf(s, a, b)
	merged, ok := impl.MergePlans(g, s, a, b)
	expectTables(t, fmt.Sprint("MergePlans ", s, a, b), merged, ok, want, wantOK)
	want, wantOK = mergedOf(s, b, a)
	merged, ok = impl.MergePlans(g, s, b, a)
	expectTables(t, fmt.Sprint("MergePlans ", s, b, a), merged, ok, want, wantOK)
}

func TestPlanTextExamples(t *testing.T) {
	g, s := tree(0, 0), schemaOf("sex2", "age3")
	count, sum := countTable(s, 0), impl.Table{Level: 1, Vars: []int{0}, Where: []int{0, 6}, Sum: 1}
	for _, c := range []struct {
		l    []impl.Table
		want string
	}{
		{nil, ""},
		{[]impl.Table{count}, "count level 0\n"},
		{[]impl.Table{sum, count}, "sum age level 1 by sex where age=1,2\ncount level 0\n"},
		{[]impl.Table{count, count}, "count level 0\ncount level 0\n"},
		{slices.Repeat([]impl.Table{count}, 20), strings.Repeat("count level 0\n", 20)},
	} {
		text, ok := impl.PlanText(g, s, c.l)
		expectText(t, fmt.Sprint("PlanText ", c.l), text, ok, c.want, true)
		l, line, ok := impl.ParsePlan(g, s, c.want)
		expectPlan(t, fmt.Sprintf("ParsePlan %q", c.want), l, line, ok, c.l, 0, true)
	}
}

func TestPlanTextsAreReadBack(t *testing.T) {
	r := rand.New(rand.NewSource(95))
	for _, g := range append(largeGeos(), unevenGeos()...) {
		for _, s := range append(smallSchemas(), largestSchema(), schemasOfWords()[0]) {
			for _, n := range []int{0, 1, 2, r.Intn(20), 20} {
				checkPlanText(t, g, s, randomPlan(r, g, s, n))
			}
		}
	}
}

// TestPlanTextCountsTables has plans of all lengths about MaxPlan.
func TestPlanTextCountsTables(t *testing.T) {
	g, s := tree(0, 0), schemaOf("sex2", "age3")
	tables := fewTables(g, s, 30)
	for n := range 31 {
		if n <= 20 {
			checkPlanText(t, g, s, tables[:n])
			continue
		}
		text, ok := impl.PlanText(g, s, tables[:n])
		expectText(t, fmt.Sprint("PlanText of tables ", n), text, ok, "", false)
		text, ok = impl.PlanText(g, s, slices.Repeat(tables[:1], n))
		expectText(t, fmt.Sprint("PlanText of one table ", n), text, ok, "", false)
		l, line, ok := impl.ParsePlan(g, s, textOfPlan(s, tables[:n]))
		expectPlan(t, fmt.Sprint("ParsePlan of lines ", n), l, line, ok, nil, 21, false)
		refusesPlan(t, g, s, tables[:n])
	}
	for _, n := range []int{40, 1000, 100000} {
		refusesPlan(t, g, s, slices.Repeat(tables[:1], n))
	}
}

// refusesPlan calls the functions with a list that is no plan, or with a
// geography or a schema that is not valid.
func refusesPlan(t *testing.T, g impl.Geo, s []impl.Variable, l []impl.Table) {
	t.Helper()
	call := fmt.Sprintf("%.200s", fmt.Sprint(g, s, l))
	text, ok := impl.PlanText(g, s, l)
	expectText(t, "PlanText "+call, text, ok, "", false)
	for _, other := range [][]impl.Table{nil, l, l[:min(len(l), 1)]} {
		merged, ok := impl.MergePlans(g, s, l, other)
		expectTables(t, "MergePlans "+call, merged, ok, nil, false)
		merged, ok = impl.MergePlans(g, s, other, l)
		expectTables(t, "MergePlans the other way "+call, merged, ok, nil, false)
	}
}

// TestPlansRefuseWrongTables has a wrong table in the first, a middle and the
// last place.
func TestPlansRefuseWrongTables(t *testing.T) {
	r := rand.New(rand.NewSource(96))
	for _, s := range [][]impl.Variable{schemaOf("b2"), schemaOf("sex2", "age3"), largestSchema()} {
		for _, g := range unevenGeos() {
			good := randomPlan(r, g, s, 4)
			for _, u := range wrongTables(g, s) {
				for _, place := range []int{0, 2, 4} {
					refusesPlan(t, g, s, slices.Insert(slices.Clone(good), place, u))
				}
				refusesPlan(t, g, s, []impl.Table{u})
			}
		}
	}
}

func TestParsePlanRefuses(t *testing.T) {
	g, s := tree(0, 0), schemaOf("sex2", "age3")
	for _, c := range []struct {
		text string
		line int
	}{
		{"\n", 1}, {"\n\n", 1}, {" ", 1}, {" \n", 1}, {"x", 1}, {"\r\n", 1}, {"\x00", 1}, {"\xff\n", 1},
		{"count level 0", 1}, {"count level 0\r\n", 1}, {"count level 0\r", 1}, {"count level 0 \n", 1}, {" count level 0\n", 1}, {"count level 0,", 1}, {"count level 0;\n", 1}, {"count level 0\x0b", 1}, {"count level 0\u2028", 1}, {"count level 0\x00\n", 1},
		{"\ncount level 0\n", 1}, {"count level 0\n\n", 2}, {"count level 0\n \n", 2}, {"count level 0\n\ncount level 0\n", 2}, {"count level 0\ncount level 0\n\n", 3}, {"count level 0\n ", 2}, {"count level 0\nx", 2}, {"count level 0\n\x00", 2},
		{"count level 0\ncount level 1", 2}, {"count level 0\ncount level", 2}, {"count level 0\ncount\n", 2}, {"count\ncount level 0\n", 1}, {"count\ncount\n", 1}, {"count level 0\ncount\ncount\n", 2}, {"count level 0\ncount\ncount level 0", 2},
		{"count level 0\ncount level 2\n", 2}, {"count level 2\ncount level 0\n", 1}, {"count level 0\ncount level 1 by age,sex\ncount level 1\n", 2}, {"count level 0\ncount level 1\nsum tax level 0\n", 3},
		{"count level 0count level 1\n", 1}, {"count level 0 count level 1\n", 1}, {"count level 0, count level 1\n", 1}, {"count level\n0\n", 1}, {"count\nlevel 0\n", 1}, {"count level 0\nby sex\n", 2}, {"count level 0 by sex\nwhere age=0\n", 2},
		{strings.Repeat("\n", 9999), 1}, {strings.Repeat(" ", 9999), 1}, {strings.Repeat("count level 0\n", 9999), 21}, {strings.Repeat("count level 0 ", 9999), 1}, {"count level 0\n" + strings.Repeat("x", 9999), 2}, {strings.Repeat("\xff\n", 9999), 1}, {"count level 0\n" + strings.Repeat("\xff", 9999) + "\n", 2},
	} {
		if _, line, good := planOfText(g, s, c.text); good || line != c.line {
			t.Errorf("the oracle reads %.80q %d", c.text, line)
		}
		l, line, ok := impl.ParsePlan(g, s, c.text)
		expectPlan(t, fmt.Sprintf("ParsePlan %.80q", c.text), l, line, ok, nil, c.line, false)
	}
}

// TestParsePlanLines has a fault in each line, with and without a second one,
// of texts of all lengths about MaxPlan.
func TestParsePlanLines(t *testing.T) {
	g, s := tree(0, 0), schemaOf("sex2", "age3")
	right := "sum age level 1 by sex where age=1,2\n"
	for n := range 24 {
		text := strings.Repeat(right, n)
		checkParsePlan(t, g, s, text)
		for _, end := range []string{"count level 0", "count level 0\n", "count level 2\n", "count", "\n", " ", "x\n", "\n\n"} {
			checkParsePlan(t, g, s, text+end)
			l, line, ok := impl.ParsePlan(g, s, text+end)
			if fine := end == "count level 0\n" && n < 20; !fine {
				expectPlan(t, fmt.Sprintf("ParsePlan of %d lines and %q", n, end), l, line, ok, nil, min(n, 20)+1, false)
			}
		}
		for place := range n {
			before, behind := strings.Repeat(right, place), strings.Repeat(right, n-place-1)
			for _, wrong := range []string{"", "count", "count level 2", "sum age level 1 by sex where age=2,1", " count level 0", "count level 0 ", "count level 00", "count level 0\r", "count level \xff"} {
				text := before + wrong + "\n" + behind
				l, line, ok := impl.ParsePlan(g, s, text)
				expectPlan(t, fmt.Sprintf("ParsePlan %q", text), l, line, ok, nil, min(place, 20)+1, false)
				checkParsePlan(t, g, s, text+wrong+"\n"+right)
				checkParsePlan(t, g, s, text+"count level 0")
			}
		}
	}
}

// TestParsePlanOfLines reads all short lists of lines.
func TestParsePlanOfLines(t *testing.T) {
	g, s := tree(0, 0), schemaOf("sex2", "age3")
	texts := []string{""}
	for range 6 {
		var longer []string
		for _, text := range texts {
			checkParsePlan(t, g, s, text)
			for _, line := range []string{"count level 0\n", "sum age level 1 by sex\n", "count level 1", "count\n", "\n", " "} {
				longer = append(longer, text+line)
			}
		}
		texts = longer
	}
}

// TestParsePlanOfChangedTexts changes, inserts and deletes each byte.
func TestParsePlanOfChangedTexts(t *testing.T) {
	g, s := tree(0, 0, 1), schemaOf("sex2", "where3")
	text := "count level 0\nsum where level 2 by where where where=1,2\ncount level 1 by sex\n"
	for place := range len(text) + 1 {
		for end := place; end <= len(text); end++ {
			checkParsePlan(t, g, s, text[:place]+text[end:])
			checkParsePlan(t, g, s, text[:end]+text[place:])
		}
		for b := range 256 {
			letter := string([]byte{byte(b)})
			checkParsePlan(t, g, s, text[:place]+letter+text[place:])
			if place < len(text) {
				checkParsePlan(t, g, s, text[:place]+letter+text[place+1:])
			}
		}
	}
}

func TestMergePlansExamples(t *testing.T) {
	g, s := tree(0, 0), schemaOf("sex2", "age3")
	plain, all, half := countTable(s, 0), countTable(s, 0), countTable(s, 0)
	all.Where, half.Where = []int{3, 7}, []int{3, 0}
	other, sum := impl.Table{Where: []int{1, 0}, Sum: -1}, impl.Table{Where: []int{0, 7}}
	for _, c := range []struct{ a, b, want []impl.Table }{
		{nil, nil, nil},
		{[]impl.Table{plain}, nil, []impl.Table{plain}},
		{nil, []impl.Table{plain}, []impl.Table{plain}},
		{[]impl.Table{plain}, []impl.Table{plain}, []impl.Table{plain}},
		{[]impl.Table{all}, []impl.Table{plain}, []impl.Table{all}},
		{[]impl.Table{plain}, []impl.Table{all}, []impl.Table{plain}},
		{[]impl.Table{half, plain, all}, nil, []impl.Table{half}},
		{nil, []impl.Table{all, half, plain, all}, []impl.Table{all}},
		{[]impl.Table{sum, plain}, []impl.Table{other, half, sum}, []impl.Table{sum, plain, other}},
		{[]impl.Table{other, all, other}, []impl.Table{sum, other, plain}, []impl.Table{other, all, sum}},
	} {
		merged, ok := impl.MergePlans(g, s, c.a, c.b)
		expectTables(t, fmt.Sprint("MergePlans ", c.a, c.b), merged, ok, c.want, true)
		checkMerged(t, g, s, c.a, c.b)
	}
}

func TestMergeRandomPlans(t *testing.T) {
	r := rand.New(rand.NewSource(97))
	for _, g := range append(unevenGeos(), largeGeos()...) {
		for _, s := range append(smallSchemas(), largestSchema()) {
			for range 3 {
				a, b := randomPlan(r, g, s, r.Intn(21)), randomPlan(r, g, s, r.Intn(21))
				for i := range b {
					if len(a) > 0 && r.Intn(2) == 0 {
						b[i] = otherWriting(r, s, a[r.Intn(len(a))])
					}
				}
				checkMerged(t, g, s, a, b)
			}
		}
	}
}

// TestMergePlansCountsTables has results of all lengths about MaxPlan.
func TestMergePlansCountsTables(t *testing.T) {
	r := rand.New(rand.NewSource(98))
	g, s := tree(0, 0), schemaOf("sex2", "age3")
	tables := fewTables(g, s, 40)
	for n := range 21 {
		for m := range 21 {
			a, b := tables[:n], tables[20:20+m]
			merged, ok := impl.MergePlans(g, s, a, b)
			var want []impl.Table
			if n+m <= 20 {
				want = slices.Concat(a, b)
			}
			expectTables(t, fmt.Sprint("MergePlans of tables ", n, m), merged, ok, want, n+m <= 20)
			overlapping := tables[10 : 10+m]
			checkMerged(t, g, s, a, overlapping)
			var twice []impl.Table
			for i := range m {
				twice = append(twice, otherWriting(r, s, tables[15+i/2]))
			}
			checkMerged(t, g, s, a, twice)
			checkMerged(t, g, s, twice, twice)
		}
	}
	full := slices.Concat(tables[:10], tables[:10])
	merged, ok := impl.MergePlans(g, s, full, tables[10:20])
	expectTables(t, "MergePlans of 20 meanings", merged, ok, tables[:20], true)
	merged, ok = impl.MergePlans(g, s, full, tables[10:21])
	expectTables(t, "MergePlans of 21 meanings", merged, ok, nil, false)
	merged, ok = impl.MergePlans(g, s, tables[:20], tables[:20])
	expectTables(t, "MergePlans of one plan", merged, ok, tables[:20], true)
}
