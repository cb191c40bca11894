package tests

import (
	"fmt"
	"math/rand"
	"regexp"
	"slices"
	"strconv"
	"strings"
	"testing"

	"loop.example/g00908/impl"
)

var (
	tableForm  = regexp.MustCompile(`\A(?:count|sum ([a-z]+)) level (0|[1-9][0-9]?)(?: by ([a-z,]+))?(?: where (.+))?\z`)
	amountForm = regexp.MustCompile(`\A(0|-?[1-9][0-9]{0,6})\z`)
)

// listOfSet writes the levels of a set, separated by commas.
func listOfSet(set int) string {
	return strings.ReplaceAll(strings.Trim(fmt.Sprint(levelsOfSet(set)), "[]"), " ", ",")
}

// setOfList returns the set of digits that are separated by commas and rise.
func setOfList(list string) (int, bool) {
	set, last := 0, -1
	for _, digit := range strings.Split(list, ",") {
		level := int(digit[0] - '0')
		if level <= last {
			return 0, false
		}
		set, last = set+setOf(level), level
	}
	return set, true
}

// textOfTable says what TableText must return for a valid table.
func textOfTable(s []impl.Variable, u impl.Table) string {
	text := "count"
	if u.Sum >= 0 {
		text = "sum " + s[u.Sum].Name
	}
	text += fmt.Sprint(" level ", u.Level)
	mark := " by "
	for _, v := range u.Vars {
		text += mark + s[v].Name
		mark = ","
	}
	mark = " where "
	for i, set := range u.Where {
		if set != 0 {
			text += mark + s[i].Name + "=" + listOfSet(set)
			mark = " "
		}
	}
	return text
}

// tableOfText says what ParseTable must return for a valid geography and a valid
// schema.
func tableOfText(g impl.Geo, s []impl.Variable, text string) (impl.Table, bool) {
	form := tableForm.FindStringSubmatch(text)
	if form == nil {
		return impl.Table{}, false
	}
	indexOf := func(name string) int {
		return slices.IndexFunc(s, func(v impl.Variable) bool { return v.Name == name })
	}
	u := impl.Table{Where: make([]int, len(s)), Sum: indexOf(form[1])}
	good := form[1] == "" || u.Sum >= 0
	u.Level, _ = strconv.Atoi(form[2])
	if form[3] != "" {
		for _, name := range strings.Split(form[3], ",") {
			u.Vars = append(u.Vars, indexOf(name))
		}
	}
	last := -1
	for _, word := range strings.Split(form[4], " ") {
		if form[4] == "" {
			break
		}
		part := partForm.FindStringSubmatch(word)
		if part == nil || indexOf(part[1]) <= last {
			return impl.Table{}, false
		}
		last = indexOf(part[1])
		set, rises := setOfList(part[2])
		u.Where[last], good = set, good && rises
	}
	if !good || !tableIsGood(g, s, u) {
		return impl.Table{}, false
	}
	return u, true
}

// normalOf says what NormalTable must return.
func normalOf(s []impl.Variable, u impl.Table) impl.Table {
	normal := impl.Table{Level: u.Level, Vars: slices.Clone(u.Vars), Where: slices.Clone(u.Where), Sum: u.Sum}
	for i, set := range u.Where {
		if len(levelsOfSet(set)) == s[i].Levels {
			normal.Where[i] = 0
		}
	}
	return normal
}

// meaningOf writes what two tables must have in common to be SameMeaning.
func meaningOf(s []impl.Variable, u impl.Table) string {
	n := normalOf(s, u)
	return fmt.Sprint(n.Level, n.Vars, n.Where, n.Sum)
}

// textOfPlan says what PlanText must return.
func textOfPlan(s []impl.Variable, l []impl.Table) string {
	text := ""
	for _, u := range l {
		text += textOfTable(s, u) + "\n"
	}
	return text
}

// planOfText says what ParsePlan must return for a valid geography and a valid
// schema. What stands behind the last newline is a line if it is not empty.
func planOfText(g impl.Geo, s []impl.Variable, text string) ([]impl.Table, int, bool) {
	var l []impl.Table
	lines := strings.Split(text, "\n")
	end := len(lines) - 1
	for i, line := range lines[:end] {
		u, ok := tableOfText(g, s, line)
		if !ok || i == 20 {
			return nil, i + 1, false
		}
		l = append(l, u)
	}
	if lines[end] != "" {
		return nil, len(lines), false
	}
	return l, 0, true
}

// planIsGood says whether a list is a plan for a valid geography and a valid
// schema.
func planIsGood(g impl.Geo, s []impl.Variable, l []impl.Table) bool {
	for _, u := range l {
		if !tableIsGood(g, s, u) {
			return false
		}
	}
	return len(l) < 21
}

// mergedOf says what MergePlans must return.
func mergedOf(s []impl.Variable, a, b []impl.Table) ([]impl.Table, bool) {
	var merged []impl.Table
	known := map[string]bool{}
	for _, l := range [][]impl.Table{a, b} {
		for _, u := range l {
			if meaning := meaningOf(s, u); !known[meaning] {
				known[meaning] = true
				merged = append(merged, u)
			}
		}
	}
	if len(merged) > 20 {
		return nil, false
	}
	return merged, true
}

// textOfCell says what CellText must return.
func (p tabulation) textOfCell(i int) string {
	text := fmt.Sprint("area ", p.cells[i].area)
	for k, v := range p.u.Vars {
		text += fmt.Sprintf(" %s=%d", p.s[v].Name, p.cells[i].values[k])
	}
	return text
}

// textOfReport says what ReportText must return for one good number for each
// cell.
func (p tabulation) textOfReport(numbers []int) string {
	text := ""
	for i, n := range numbers {
		text += fmt.Sprintf("%s: %d\n", p.textOfCell(i), n)
	}
	return text
}

// reportOfText says what ParseReport must return.
func (p tabulation) reportOfText(text string) ([]int, bool) {
	lines := strings.Split(text, "\n")
	if len(lines) != len(p.cells)+1 || lines[len(p.cells)] != "" {
		return nil, false
	}
	var numbers []int
	for i := range p.cells {
		number, has := strings.CutPrefix(lines[i], p.textOfCell(i)+": ")
		n, _ := strconv.Atoi(number)
		if !has || !amountForm.MatchString(number) || n < -1000000 || n > 1000000 {
			return nil, false
		}
		numbers = append(numbers, n)
	}
	return numbers, true
}

func sameTable(a, b impl.Table) bool {
	return a.Level == b.Level && slices.Equal(a.Vars, b.Vars) && slices.Equal(a.Where, b.Where) && a.Sum == b.Sum
}

// fewTables returns n different valid tables that have different meanings.
func fewTables(g impl.Geo, s []impl.Variable, n int) []impl.Table {
	var few []impl.Table
	known := map[string]bool{}
	for _, u := range tablesWith(g, s, allWheres(s)) {
		meaning := meaningOf(s, u)
		if len(few) < n && !known[meaning] {
			known[meaning] = true
			few = append(few, u)
		}
	}
	if len(few) < n {
		panic("too few tables")
	}
	return few
}

// randomPlan returns n valid tables. Some of them have the same meaning.
func randomPlan(r *rand.Rand, g impl.Geo, s []impl.Variable, n int) []impl.Table {
	l := make([]impl.Table, n)
	for i := range l {
		l[i] = randomTable(r, g, s)
		if i > 0 && r.Intn(3) == 0 {
			l[i] = otherWriting(r, s, l[r.Intn(i)])
		}
	}
	return l
}

// otherWriting returns a table of the same meaning, with sets of all levels and
// 0 in the place of each other.
func otherWriting(r *rand.Rand, s []impl.Variable, u impl.Table) impl.Table {
	other := normalOf(s, u)
	for i, v := range s {
		if other.Where[i] == 0 && r.Intn(2) == 0 {
			sets := setsOf(v.Levels)
			other.Where[i] = sets[len(sets)-1]
		}
	}
	return other
}

// randomAmounts returns numbers of a report. The least, the greatest and 0 occur
// often.
func randomAmounts(r *rand.Rand, n int) []int {
	numbers := randomNumbers(r, n)
	for i := range numbers {
		if r.Intn(2) == 0 {
			numbers[i] = []int{-1000000, -1, 0, 1, 9, -10, 1000000}[r.Intn(7)]
		}
	}
	return numbers
}

// schemasOfWords have variables that are named like the words of the language.
func schemasOfWords() [][]impl.Variable {
	words := []string{"count2", "sum3", "level2", "by2", "where2", "area2"}
	l := [][]impl.Variable{schemaOf(words...), schemaOf("where3", "by2", "level4", "sum2", "count2")}
	for _, a := range words {
		l = append(l, schemaOf(a))
		for _, b := range words {
			if a != b {
				l = append(l, schemaOf(a, b))
			}
		}
	}
	return l
}

func expectTable(t *testing.T, call string, got impl.Table, ok bool, want impl.Table, wantOK bool) {
	t.Helper()
	if !sameTable(got, want) || ok != wantOK {
		t.Errorf("%.200s is %v %v, not %v %v", call, got, ok, want, wantOK)
	}
}

func expectTables(t *testing.T, call string, got []impl.Table, ok bool, want []impl.Table, wantOK bool) {
	t.Helper()
	if !slices.EqualFunc(got, want, sameTable) || ok != wantOK {
		t.Errorf("%.200s is %v %v, not %v %v", call, got, ok, want, wantOK)
	}
}

func expectPlan(t *testing.T, call string, got []impl.Table, line int, ok bool, want []impl.Table, wantLine int, wantOK bool) {
	t.Helper()
	expectTables(t, call, got, ok, want, wantOK)
	if line != wantLine {
		t.Errorf("%.200s has the line %d, not %d", call, line, wantLine)
	}
}

func TestPlanLimit(t *testing.T) {
	if impl.MaxPlan != 20 {
		t.Error("limit", impl.MaxPlan)
	}
}

// TestOracleReadsTables reads back what the oracle writes. Different tables have
// different texts.
func TestOracleReadsTables(t *testing.T) {
	for _, s := range append(schemasOfWords()[2:], schemaOf("sex2", "age3"), schemaOf("b2", "a2", "c2")) {
		for _, g := range []impl.Geo{tree(), tree(0, 0, 1)} {
			texts, tables := map[string]bool{}, tablesWith(g, s, allWheres(s))
			for _, u := range tables {
				text := textOfTable(s, u)
				back, ok := tableOfText(g, s, text)
				expectTable(t, "the oracle "+text, back, ok, u, true)
				texts[text] = true
			}
			if len(texts) != len(tables) {
				t.Error("texts of tables", g, s, len(texts), len(tables))
			}
		}
	}
}

func TestOracleKnowsPlansAndReports(t *testing.T) {
	r := rand.New(rand.NewSource(900))
	for _, g := range append(unevenGeos(), largeGeos()...) {
		for _, s := range smallSchemas() {
			l := randomPlan(r, g, s, r.Intn(21))
			if !planIsGood(g, s, l) {
				t.Error("should be a plan", g, s, l)
			}
			back, line, ok := planOfText(g, s, textOfPlan(s, l))
			expectPlan(t, "the oracle", back, line, ok, l, 0, true)
			p := newTabulation(g, s, randomTable(r, g, s))
			numbers := randomAmounts(r, len(p.cells))
			read, ok := p.reportOfText(p.textOfReport(numbers))
			expectInts(t, "the oracle", read, ok, numbers, true)
		}
	}
}
