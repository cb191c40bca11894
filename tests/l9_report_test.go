package tests

import (
	"fmt"
	"math"
	"math/rand"
	"slices"
	"strings"
	"testing"

	"loop.example/g00908/impl"
)

// checkCellTexts writes all cells, and asks for some beyond.
func checkCellTexts(t *testing.T, p tabulation) {
	t.Helper()
	n := len(p.cells)
	for i := range n {
		text, ok := impl.CellText(p.g, p.s, p.u, i)
		expectText(t, fmt.Sprint("CellText ", p.g, p.s, p.u, i), text, ok, p.textOfCell(i), true)
	}
	for _, i := range []int{-1, -2, -n, n, n + 1, 600, 1 << 32, math.MaxInt, math.MinInt} {
		if i < 0 || i >= n {
			text, ok := impl.CellText(p.g, p.s, p.u, i)
			expectText(t, fmt.Sprint("CellText ", p.g, p.s, p.u, i), text, ok, "", false)
		}
	}
}

// checkReport writes a report and reads it back.
func checkReport(t *testing.T, p tabulation, numbers []int) {
	t.Helper()
	text, ok := impl.ReportText(p.g, p.s, p.u, numbers)
	expectText(t, fmt.Sprint("ReportText ", p.g, p.s, p.u), text, ok, p.textOfReport(numbers), true)
	back, ok := impl.ParseReport(p.g, p.s, p.u, text)
	expectInts(t, fmt.Sprintf("ParseReport %v %v %v %q", p.g, p.s, p.u, text), back, ok, numbers, true)
}

// checkParseReport compares ParseReport with the oracle, and what it returns
// with the text.
func checkParseReport(t *testing.T, p tabulation, text string) {
	t.Helper()
	want, wantOK := p.reportOfText(text)
	got, ok := impl.ParseReport(p.g, p.s, p.u, text)
	expectInts(t, fmt.Sprintf("ParseReport %v %v %v %.200q", p.g, p.s, p.u, text), got, ok, want, wantOK)
	if !ok {
		return
	}
	back, ok := impl.ReportText(p.g, p.s, p.u, got)
	expectText(t, fmt.Sprintf("ReportText of ParseReport %v %q", p.u, text), back, ok, text, true)
}

func TestCellTextExamples(t *testing.T) {
	s := schemaOf("sex2", "age3")
	for _, c := range []struct {
		g    impl.Geo
		u    impl.Table
		i    int
		want string
	}{
		{tree(0, 0), impl.Table{Level: 1, Vars: []int{0}, Where: []int{0, 6}, Sum: -1}, 3, "area 2 sex=1"},
		{tree(0, 0), impl.Table{Level: 1, Vars: []int{0}, Where: []int{0, 6}, Sum: 1}, 0, "area 1 sex=0"},
		{tree(0, 0), countTable(s, 0), 0, "area 0"},
		{tree(0, 0), countTable(s, 1), 1, "area 2"},
		{tree(0, 0), countTable(s, 1, 0, 1), 0, "area 1 sex=0 age=0"},
		{tree(0, 0), countTable(s, 1, 0, 1), 10, "area 2 sex=1 age=1"},
		{tree(0, 0), countTable(s, 1, 0, 1), 11, "area 2 sex=1 age=2"},
		{tree(0, 0), countTable(s, 1, 1), 5, "area 2 age=2"},
		{chain(30), countTable(s, 29, 1), 1, "area 29 age=1"},
		{star(30), countTable(s, 1), 28, "area 29"},
	} {
		text, ok := impl.CellText(c.g, s, c.u, c.i)
		expectText(t, fmt.Sprint("CellText ", c.u, c.i), text, ok, c.want, true)
	}
	words := schemaOf("area2", "by2", "where2")
	text, ok := impl.CellText(tree(), words, countTable(words, 0, 0, 1, 2), 6)
	expectText(t, "CellText of words", text, ok, "area 0 area=1 by=1 where=0", true)
}

func TestReportExamples(t *testing.T) {
	g, s := tree(0, 0), schemaOf("sex2", "age3")
	u := impl.Table{Level: 1, Vars: []int{0}, Where: []int{0, 6}, Sum: -1}
	for _, c := range []struct {
		u       impl.Table
		numbers []int
		want    string
	}{
		{u, []int{1, 0, -2, 30}, "area 1 sex=0: 1\narea 1 sex=1: 0\narea 2 sex=0: -2\narea 2 sex=1: 30\n"},
		{u, []int{-1000000, 1000000, -1, 999999}, "area 1 sex=0: -1000000\narea 1 sex=1: 1000000\narea 2 sex=0: -1\narea 2 sex=1: 999999\n"},
		{countTable(s, 0), []int{0}, "area 0: 0\n"},
		{countTable(s, 0), []int{-1000000}, "area 0: -1000000\n"},
		{countTable(s, 1), []int{10, -10}, "area 1: 10\narea 2: -10\n"},
	} {
		text, ok := impl.ReportText(g, s, c.u, c.numbers)
		expectText(t, fmt.Sprint("ReportText ", c.u), text, ok, c.want, true)
		numbers, ok := impl.ParseReport(g, s, c.u, c.want)
		expectInts(t, fmt.Sprintf("ParseReport %q", c.want), numbers, ok, c.numbers, true)
	}
}

// TestReportsOfAllTables has a report of each table of small schemas.
func TestReportsOfAllTables(t *testing.T) {
	r := rand.New(rand.NewSource(101))
	for _, s := range [][]impl.Variable{schemaOf("b2"), schemaOf("sex2", "age3"), schemaOf("b2", "a2", "c2")} {
		for _, g := range append(fewAreas(3), tree(0, 0, 1)) {
			for _, u := range tablesWith(g, s, manyWheres(r, s)) {
				p := newTabulation(g, s, u)
				checkCellTexts(t, p)
				checkReport(t, p, randomAmounts(r, len(p.cells)))
			}
		}
	}
}

// TestRandomReports has the cells of surveys as well.
func TestRandomReports(t *testing.T) {
	r := rand.New(rand.NewSource(102))
	for _, g := range append(largeGeos(), unevenGeos()...) {
		for _, s := range append(smallSchemas(), largestSchema(), schemasOfWords()[0], randomSchema(r)) {
			p := newTabulation(g, s, randomTable(r, g, s))
			checkCellTexts(t, p)
			checkReport(t, p, randomAmounts(r, len(p.cells)))
			cells, ok := impl.TableOf(g, s, p.u, randomSurvey(r, g, s, r.Intn(41)))
			if !ok {
				t.Error("TableOf", g, s, p.u)
			}
			checkReport(t, p, cells)
		}
	}
}

// TestReportOfMostCells has 600 cells, and a table with too many.
func TestReportOfMostCells(t *testing.T) {
	r := rand.New(rand.NewSource(103))
	s := schemaOf("a5", "b5", "c4", "d6")
	p := newTabulation(tree(), s, countTable(s, 0, 0, 1, 2, 3))
	checkCellTexts(t, p)
	numbers := randomAmounts(r, 600)
	checkReport(t, p, numbers)
	text := p.textOfReport(numbers)
	for _, line := range []string{"area 0: 1\n", "area 0 a=4 b=4 c=3 d=5: 1\n", "area 0 a=5 b=0 c=0 d=0: 1\n"} {
		checkParseReport(t, p, text+line)
		checkParseReport(t, p, line+text)
		checkParseReport(t, p, text+strings.Repeat(line, 1000))
	}
	large := schemaOf("a5", "b5", "c5", "d5")
	u, q := countTable(large, 0, 0, 1, 2, 3), newTabulation(tree(), large, countTable(large, 0, 0, 1, 2))
	refusesReport(t, tree(), large, u, make([]int, 625), "area 0 a=0 b=0 c=0 d=0: 0\n")
	checkReport(t, q, make([]int, 125))
}

// TestReportLooksAtEachNumber has numbers about the bounds in each place.
func TestReportLooksAtEachNumber(t *testing.T) {
	g, s := tree(0, 0), schemaOf("sex2", "age3")
	p := newTabulation(g, s, countTable(s, 1, 0))
	for place := range 4 {
		for _, n := range append(extremeInts(), 999999, 1000000, 1000001, -999999, -1000000, -1000001, 9999999, 10000000, -9999999, 1<<32, 10, -10, 100000) {
			numbers := []int{5, -6, 7, 0}
			numbers[place] = n
			text, ok := impl.ReportText(g, s, p.u, numbers)
			if n < -1000000 || n > 1000000 {
				expectText(t, fmt.Sprint("ReportText of numbers ", numbers), text, ok, "", false)
			} else {
				expectText(t, fmt.Sprint("ReportText of numbers ", numbers), text, ok, p.textOfReport(numbers), true)
			}
			checkParseReport(t, p, p.textOfReport(numbers))
		}
	}
}

// refusesReport calls the functions with numbers that do not suit a table, or
// with a table, a geography or a schema that is not valid.
func refusesReport(t *testing.T, g impl.Geo, s []impl.Variable, u impl.Table, numbers []int, texts ...string) {
	t.Helper()
	call := fmt.Sprintf("%.200s", fmt.Sprint(g, s, u, numbers))
	text, ok := impl.ReportText(g, s, u, numbers)
	expectText(t, "ReportText "+call, text, ok, "", false)
	for _, x := range texts {
		read, ok := impl.ParseReport(g, s, u, x)
		expectInts(t, fmt.Sprintf("ParseReport %s %.80q", call, x), read, ok, nil, false)
	}
}

// TestReportCountsNumbers has too few and too many of them.
func TestReportCountsNumbers(t *testing.T) {
	r := rand.New(rand.NewSource(104))
	for _, s := range [][]impl.Variable{schemaOf("b2"), schemaOf("sex2", "age3")} {
		for _, g := range unevenGeos() {
			for _, u := range tablesWith(g, s, [][]int{make([]int, len(s))}) {
				p := newTabulation(g, s, u)
				n := len(p.cells)
				lines := strings.SplitAfter(p.textOfReport(make([]int, n)), "\n")[:n]
				for _, count := range []int{0, n - 1, n + 1, n + 2, 2 * n, 600, 601, 5000} {
					if count == n || count < 0 {
						continue
					}
					numbers := randomAmounts(r, count)
					few := strings.Join(lines[:min(n, count)], "") + strings.Repeat(lines[n-1], max(count-n, 0))
					refusesReport(t, g, s, u, numbers, few)
				}
			}
		}
	}
}

func TestReportRefusesWrongTables(t *testing.T) {
	for _, s := range append(smallSchemas(), largestSchema()) {
		for _, g := range unevenGeos() {
			for _, u := range wrongTables(g, s) {
				for _, i := range []int{-1, 0, 1, 599} {
					text, ok := impl.CellText(g, s, u, i)
					expectText(t, fmt.Sprintf("CellText %.200s", fmt.Sprint(g, s, u, i)), text, ok, "", false)
				}
				refusesReport(t, g, s, u, []int{0}, "", "area 0: 0\n")
				refusesReport(t, g, s, u, nil, "area 1: 0\n")
			}
		}
	}
}

func TestParseReportRefuses(t *testing.T) {
	g, s := tree(0, 0), schemaOf("sex2", "age3")
	p := newTabulation(g, s, countTable(s, 1))
	q := newTabulation(g, s, countTable(s, 0, 0))
	for _, c := range []struct {
		p     tabulation
		texts []string
	}{
		{p, []string{
			"", "\n", " ", "x", "0", "0\n", "1\n2\n", "area 1: 0", "area 1: 0\n", "area 1: 0\narea 2: 0", "area 2: 0\narea 1: 0\n", "area 1: 0\narea 1: 0\n", "area 2: 0\narea 2: 0\n", "area 1: 0\narea 2: 0\narea 2: 0\n", "area 1: 0\narea 2: 0\narea 3: 0\n", "area 0: 0\narea 1: 0\narea 2: 0\n", "area 1: 0\n\narea 2: 0\n", "\narea 1: 0\narea 2: 0\n", "area 1: 0\narea 2: 0\n\n", "area 1: 0\narea 2: 0\n ",
			"area 1: 00\narea 2: 0\n", "area 1: 01\narea 2: 0\n", "area 1: 0\narea 2: 01\n", "area 1: +1\narea 2: 0\n", "area 1: -0\narea 2: 0\n", "area 1: +0\narea 2: 0\n", "area 1: -01\narea 2: 0\n", "area 1: --1\narea 2: 0\n", "area 1: - 1\narea 2: 0\n", "area 1: 1-\narea 2: 0\n", "area 1: 1.0\narea 2: 0\n", "area 1: 1e1\narea 2: 0\n", "area 1: 0x1\narea 2: 0\n", "area 1: 1_0\narea 2: 0\n", "area 1: 1,000\narea 2: 0\n", "area 1: x\narea 2: 0\n", "area 1: \narea 2: 0\n", "area 1: 1/2\narea 2: 0\n",
			"area 1: 1000001\narea 2: 0\n", "area 1: -1000001\narea 2: 0\n", "area 1: 0\narea 2: 1000001\n", "area 1: 10000000\narea 2: 0\n", "area 1: 4294967296\narea 2: 0\n", "area 1: 18446744073709551616\narea 2: 0\n", "area 1: 9223372036854775807\narea 2: 0\n", "area 1: -9223372036854775808\narea 2: 0\n", "area 1: 9223372036854775808\narea 2: 0\n", "area 1: 1\u0660\narea 2: 0\n", "area 1: １\narea 2: 0\n", "area 1: \xff\narea 2: 0\n", "area 1: 0\narea 2: 0\xff\n",
			"area 1:0\narea 2: 0\n", "area 1:  0\narea 2: 0\n", "area 1 : 0\narea 2: 0\n", "area 1 0\narea 2: 0\n", "area 1; 0\narea 2: 0\n", "area 1: 0 \narea 2: 0\n", " area 1: 0\narea 2: 0\n", "area  1: 0\narea 2: 0\n", "area 1: 0\r\narea 2: 0\r\n", "area 1: 0\tarea 2: 0\n", "area 1: 0\n area 2: 0\n", "area 1: 0 area 2: 0\n", "area\t1: 0\narea 2: 0\n", "area 1:\n0\narea 2: 0\n", "area 1: 0: 0\narea 2: 0\n", "area 1: : 0\narea 2: 0\n", "area 1: 0,area 2: 0\n",
			"Area 1: 0\narea 2: 0\n", "1: 0\n2: 0\n", "area 01: 0\narea 2: 0\n", "area +1: 0\narea 2: 0\n", "area -1: 0\narea 2: 0\n", "area: 0\narea: 0\n", "area 1 sex=0: 0\narea 2: 0\n", "area 1: 0\narea 2 sex=0: 0\n", "level 1: 0\nlevel 2: 0\n", "areas 1: 0\narea 2: 0\n", "area 1: 0\nArea 2: 0\n", "area one: 0\narea two: 0\n", ": 0\n: 0\n", ": 0\narea 2: 0\n",
			strings.Repeat("area 1: 0\n", 9999), strings.Repeat("\n", 9999), strings.Repeat(" ", 9999), "area 1: " + strings.Repeat("0", 9999) + "\narea 2: 0\n", "area 1: " + strings.Repeat("9", 9999) + "\narea 2: 0\n", "area 1: 0\narea 2: 0\n" + strings.Repeat("area 2: 0\n", 9999), strings.Repeat(": ", 9999), strings.Repeat("\xff", 9999) + ": 0\n", strings.Repeat("0", 9999), "area 1: 0\n" + strings.Repeat("a", 9999) + ": 0\n",
		}},
		{q, []string{
			"area 0: 0\n", "area 0: 0\narea 0: 0\n", "area 0 sex=0: 0\n", "area 0 sex=1: 0\narea 0 sex=0: 0\n", "area 0 sex=0: 0\narea 0 sex=0: 0\n", "area 0 sex=0: 0\narea 0 sex=2: 0\n", "area 0 sex=0: 0\narea 0 age=1: 0\n", "area 0 sex=0: 0\narea 1 sex=1: 0\n", "area 0 sex=0 age=0: 0\narea 0 sex=1 age=0: 0\n", "area 0 sex: 0\narea 0 sex=1: 0\n", "area 0 sex=00: 0\narea 0 sex=1: 0\n", "area 0 sex=+0: 0\narea 0 sex=1: 0\n",
			"area 0,sex=0: 0\narea 0 sex=1: 0\n", "area 0  sex=0: 0\narea 0 sex=1: 0\n", "area 0 sex=0 : 0\narea 0 sex=1: 0\n", "area 0 sex =0: 0\narea 0 sex=1: 0\n", "area 0 sex= 0: 0\narea 0 sex=1: 0\n", "area 0 sex: 0: 0\narea 0 sex=1: 0\n", "sex=0 area 0: 0\nsex=1 area 0: 0\n", "sex=0: 0\nsex=1: 0\n", "area 0 Sex=0: 0\narea 0 Sex=1: 0\n", "area 0 sex=0,1: 0\n", "area 0 sex=0: 0\narea 0 sex=1: 0\narea 0: 0\n", "area 0 sex=0: 0\narea 0 sex=1: 0", "area 0 sex=0\narea 0 sex=1\n", "area 0 s\xffx=0: 0\narea 0 sex=1: 0\n",
		}},
	} {
		for _, text := range c.texts {
			if _, good := c.p.reportOfText(text); good {
				t.Errorf("the oracle reads %q", text)
			}
			read, ok := impl.ParseReport(g, s, c.p.u, text)
			expectInts(t, fmt.Sprintf("ParseReport %.80q", text), read, ok, nil, false)
		}
	}
}

// TestParseReportOfLines reads lines in all orders, missing and twice.
func TestParseReportOfLines(t *testing.T) {
	p := newTabulation(tree(0, 0), schemaOf("sex2", "age3"), countTable(schemaOf("sex2", "age3"), 1, 0))
	lines := []string{"area 1 sex=0: 5\n", "area 1 sex=1: -1\n", "area 2 sex=0: 1000000\n", "area 2 sex=1: 0\n", "area 2 sex=1: -0\n", "\n"}
	read := 0
	for n := range 6 {
		for _, places := range allNumbers(n, 0, len(lines)-1) {
			text := ""
			for _, i := range places {
				text += lines[i]
			}
			checkParseReport(t, p, text)
			if _, ok := impl.ParseReport(p.g, p.s, p.u, text); ok {
				read++
			}
		}
	}
	if read != 1 {
		t.Error("reports that are read", read)
	}
}

// TestParseReportOfChangedTexts changes, inserts and deletes each byte.
func TestParseReportOfChangedTexts(t *testing.T) {
	r := rand.New(rand.NewSource(105))
	s := schemaOf("sex2", "area3")
	for _, u := range []impl.Table{countTable(s, 0), countTable(s, 1), countTable(s, 1, 0), countTable(s, 0, 0, 1)} {
		p := newTabulation(tree(0, 0), s, u)
		text := p.textOfReport(randomAmounts(r, len(p.cells)))
		for place := range len(text) + 1 {
			for end := place; end <= len(text); end++ {
				checkParseReport(t, p, text[:place]+text[end:])
				checkParseReport(t, p, text[:end]+text[place:])
			}
			for b := range 256 {
				letter := string([]byte{byte(b)})
				checkParseReport(t, p, text[:place]+letter+text[place:])
				if place < len(text) {
					checkParseReport(t, p, text[:place]+letter+text[place+1:])
				}
			}
		}
	}
}

// TestReportsSuitTheirTableOnly reads reports of other tables.
func TestReportsSuitTheirTableOnly(t *testing.T) {
	r := rand.New(rand.NewSource(106))
	s := schemaOf("sex2", "age3", "b2")
	for _, g := range unevenGeos() {
		tables := tablesWith(g, s, [][]int{{0, 0, 0}})
		tables = slices.DeleteFunc(tables, func(u impl.Table) bool { return u.Sum > 0 })
		for _, u := range tables {
			p := newTabulation(g, s, u)
			text := p.textOfReport(randomAmounts(r, len(p.cells)))
			for _, other := range tables {
				checkParseReport(t, newTabulation(g, s, other), text)
			}
		}
	}
}
