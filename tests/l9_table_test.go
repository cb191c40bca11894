package tests

import (
	"fmt"
	"math/rand"
	"slices"
	"strings"
	"testing"

	"loop.example/g00908/impl"
)

// checkTableText writes a valid table and reads it back.
func checkTableText(t *testing.T, g impl.Geo, s []impl.Variable, u impl.Table) {
	t.Helper()
	text, ok := impl.TableText(g, s, u)
	expectText(t, fmt.Sprint("TableText ", g, s, u), text, ok, textOfTable(s, u), true)
	back, ok := impl.ParseTable(g, s, text)
	expectTable(t, fmt.Sprintf("ParseTable %v %v %q", g, s, text), back, ok, u, true)
}

// checkParseTable compares ParseTable with the oracle, and what it returns with
// the text.
func checkParseTable(t *testing.T, g impl.Geo, s []impl.Variable, text string) {
	t.Helper()
	want, wantOK := tableOfText(g, s, text)
	got, ok := impl.ParseTable(g, s, text)
	expectTable(t, fmt.Sprintf("ParseTable %v %v %q", g, s, text), got, ok, want, wantOK)
	if !ok {
		return
	}
	back, ok := impl.TableText(g, s, got)
	expectText(t, fmt.Sprintf("TableText of ParseTable %v %v %q", g, s, text), back, ok, text, true)
}

func TestTableTextExamples(t *testing.T) {
	g, s := tree(0, 0), schemaOf("sex2", "age3")
	words := schemaOf("count2", "sum2", "level2", "by2", "where2")
	for _, c := range []struct {
		s    []impl.Variable
		u    impl.Table
		want string
	}{
		{s, impl.Table{Level: 1, Vars: []int{0}, Where: []int{0, 6}, Sum: -1}, "count level 1 by sex where age=1,2"},
		{s, impl.Table{Where: []int{0, 0}, Sum: -1}, "count level 0"},
		{s, impl.Table{Where: []int{0, 0}}, "sum sex level 0"},
		{s, impl.Table{Level: 1, Where: []int{0, 0}, Sum: 1}, "sum age level 1"},
		{s, impl.Table{Vars: []int{1}, Where: []int{0, 0}, Sum: -1}, "count level 0 by age"},
		{s, impl.Table{Level: 1, Vars: []int{0, 1}, Where: []int{0, 0}, Sum: -1}, "count level 1 by sex,age"},
		{s, impl.Table{Where: []int{1, 0}, Sum: -1}, "count level 0 where sex=0"},
		{s, impl.Table{Where: []int{2, 4}, Sum: 1}, "sum age level 0 where sex=1 age=2"},
		{s, impl.Table{Where: []int{3, 0}, Sum: -1}, "count level 0 where sex=0,1"},
		{s, impl.Table{Level: 1, Vars: []int{0, 1}, Where: []int{3, 7}, Sum: 0}, "sum sex level 1 by sex,age where sex=0,1 age=0,1,2"},
		{schemaOf("a2", "z8", "b2", "c2", "d2", "e2"), impl.Table{Vars: []int{0, 2, 5}, Where: []int{0, 170, 0, 3, 0, 1}, Sum: 1}, "sum z level 0 by a,b,e where z=1,3,5,7 c=0,1 e=0"},
		{words, impl.Table{Where: []int{0, 0, 0, 0, 0}, Sum: 1}, "sum sum level 0"},
		{words, impl.Table{Level: 1, Where: []int{0, 0, 0, 0, 0}, Sum: 2}, "sum level level 1"},
		{words, impl.Table{Vars: []int{3}, Where: []int{0, 0, 0, 0, 0}, Sum: 3}, "sum by level 0 by by"},
		{words, impl.Table{Vars: []int{4}, Where: []int{0, 0, 0, 0, 1}, Sum: 4}, "sum where level 0 by where where where=0"},
		{words, impl.Table{Vars: []int{4}, Where: []int{0, 0, 0, 0, 0}, Sum: -1}, "count level 0 by where"},
		{words, impl.Table{Vars: []int{0, 1, 2, 3, 4}, Where: []int{1, 2, 3, 1, 2}, Sum: 0}, "sum count level 0 by count,sum,level,by,where where count=0 sum=1 level=0,1 by=0 where=1"},
	} {
		text, ok := impl.TableText(g, c.s, c.u)
		expectText(t, fmt.Sprint("TableText ", c.u), text, ok, c.want, true)
		u, ok := impl.ParseTable(g, c.s, c.want)
		expectTable(t, "ParseTable "+c.want, u, ok, c.u, true)
	}
}

func TestAllTableTextsAreReadBack(t *testing.T) {
	for _, s := range [][]impl.Variable{schemaOf("b2"), schemaOf("z8"), schemaOf("sex2", "age3"), schemaOf("age3", "sex2"), schemaOf("b2", "a2", "c2")} {
		for _, g := range append(fewAreas(3), tree(0, 0, 1)) {
			for _, u := range tablesWith(g, s, allWheres(s)) {
				checkTableText(t, g, s, u)
			}
		}
	}
}

func TestTableTextsOfManyGeosAreReadBack(t *testing.T) {
	r := rand.New(rand.NewSource(91))
	for _, g := range append(largeGeos(), unevenGeos()...) {
		for _, s := range append(smallSchemas(), largestSchema(), randomSchema(r), randomSchema(r)) {
			for range 10 {
				checkTableText(t, g, s, randomTable(r, g, s))
			}
		}
	}
}

// TestTableTextsWithNamesOfWords has variables that are named like the words of
// the language.
func TestTableTextsWithNamesOfWords(t *testing.T) {
	r := rand.New(rand.NewSource(92))
	for _, s := range schemasOfWords() {
		for _, g := range []impl.Geo{tree(), tree(0, 0)} {
			tables := tablesWith(g, s, manyWheres(r, s))
			if len(s) < 3 {
				tables = tablesWith(g, s, allWheres(s))
			}
			for _, u := range tables {
				checkTableText(t, g, s, u)
			}
		}
	}
}

// TestTableTextLevels has Levels of one and of two digits.
func TestTableTextLevels(t *testing.T) {
	s := schemaOf("sex2", "age3")
	for n := 1; n <= 30; n++ {
		for _, g := range []impl.Geo{chain(n), broom((n+1)/2, n)} {
			for level := range depthIn(g) + 1 {
				checkTableText(t, g, s, countTable(s, level, 1))
				checkTableText(t, g, s, impl.Table{Level: level, Where: []int{0, 5}, Sum: 1})
			}
			for level := -3; level <= 40; level++ {
				for _, form := range []string{"%d", "+%d", "%02d", "%03d", "%d0", "0%d", "0x%x", "%d.", "%d ", " %d"} {
					checkParseTable(t, g, s, "count level "+fmt.Sprintf(form, level))
				}
			}
		}
	}
	u, ok := impl.ParseTable(chain(30), s, "count level 29 by sex")
	expectTable(t, "ParseTable of the last level", u, ok, countTable(s, 29, 0), true)
	u, ok = impl.ParseTable(chain(30), s, "count level 30 by sex")
	expectTable(t, "ParseTable of a level without areas", u, ok, impl.Table{}, false)
}

// TestTableTextOfTooManyCells has tables of 600 cells and of more.
func TestTableTextOfTooManyCells(t *testing.T) {
	s := schemaOf("a5", "b5", "c4", "d6", "e8")
	for _, c := range []struct {
		g    impl.Geo
		text string
		good bool
	}{
		{tree(), "count level 0 by a,b,c,d", true},
		{tree(), "sum e level 0 by a,b,c,d where e=0", true},
		{tree(), "count level 0 by a,b,c,e", false},
		{tree(), "count level 0 by a,b,c,d,e", false},
		{star(26), "count level 1 by a,c", true},
		{star(26), "count level 1 by d,c", false},
		{star(26), "count level 1 by c,d", true},
		{star(27), "count level 1 by c,d", false},
		{star(16), "count level 1 by a,e", true},
		{star(17), "count level 1 by a,e", false},
		{star(17), "count level 0 by a,e", true},
	} {
		want, good := tableOfText(c.g, s, c.text)
		if good != c.good {
			t.Error("the oracle", c.g, c.text, good)
		}
		u, ok := impl.ParseTable(c.g, s, c.text)
		expectTable(t, "ParseTable "+c.text, u, ok, want, c.good)
	}
}

func TestTableTextRefuses(t *testing.T) {
	for _, s := range append(smallSchemas(), largestSchema()) {
		for _, g := range unevenGeos() {
			for _, u := range wrongTables(g, s) {
				text, ok := impl.TableText(g, s, u)
				expectText(t, fmt.Sprintf("TableText %.200s", fmt.Sprint(g, s, u)), text, ok, "", false)
				normal, ok := impl.NormalTable(g, s, u)
				expectTable(t, fmt.Sprintf("NormalTable %.200s", fmt.Sprint(g, s, u)), normal, ok, impl.Table{}, false)
			}
		}
	}
}

func TestParseTableRefuses(t *testing.T) {
	g, s := tree(0, 0, 1, 1), schemaOf("sex2", "age3", "job8")
	for _, text := range []string{
		"", " ", "\n", "\x00", "\xff", "x", "0", ",", "=", "count", "sum", "level", "by", "where", "count ", "count level", "count level ", "level 0", "sum level 0", "sum sex", "sum sex ", "sum sex level", "sum sex level ",
		"count 0", "count sex", "count sex level 0", "count 0 level", "level 0 count", "level 0 sum sex", "level count 0", "sex level 0", "sum sex,age level 0", "sum sex age level 0", "sum tax level 0", "sum 0 level 0", "sum sum level 0", "sum count level 0",
		"count sum sex level 0", "sum sex count level 0", "count count level 0", "sum sex sum sex level 0", "sum sum sex level 0", "count level level 0", "count level 0 level 0", "count level 0 level 1", "count level 0 count", "count level 0 sum sex", "count level 0 1", "count level 0 0",
		"Count level 0", "COUNT level 0", "count Level 0", "counts level 0", "coun level 0", "count levels 0", "count leve 0", "Sum sex level 0", "sums sex level 0", "count level 0 By sex", "count level 0 Where sex=0", "count level 0 bye sex", "count level 0 wher sex=0", "sum Sex level 0",
		" count level 0", "count level 0 ", "count  level 0", "count level  0", "count\tlevel 0", "count level\t0", "count\nlevel 0", "count level 0\n", "\ncount level 0", "count level 0\r", "count level 0\r\n", "count level 0\x00", "\x00count level 0", "count level 0\t", "countlevel 0", "count level0", "count level=0", "count, level 0", "count level 0;", "count\u00a0level 0", "\ufeffcount level 0",
		"count level 00", "count level 01", "count level +0", "count level -0", "count level +1", "count level -1", "count level 3", "count level 9", "count level 10", "count level 30", "count level 1.0", "count level 1e0", "count level 0x1", "count level 1_", "count level _1", "count level x", "count level 0,1", "count level １", "count level ١", "count level one",
		"count level 4294967296", "count level 9223372036854775807", "count level 9223372036854775808", "count level -9223372036854775808", "count level 18446744073709551616", "count level 256",
		"count level 0 by", "count level 0 by ", "count level 0 by  sex", "count level 0 by ,", "count level 0 by sex,", "count level 0 by ,sex", "count level 0 by sex,,age", "count level 0 by sex, age", "count level 0 by sex ,age", "count level 0 by sex age", "count level 0 by sex by age", "count level 0 by sex ", "count level 0  by sex", "count by sex level 0", "by sex count level 0",
		"count level 0 by tax", "count level 0 by sex,tax", "count level 0 by tax,sex", "count level 0 by se", "count level 0 by sexx", "count level 0 by SEX", "count level 0 by 0", "count level 0 by by", "count level 0 by where", "count level 0 by sex=0", "count level 0 by sex;age", "count level 0 by sex\x00", "count level 0 by s\xffx", "count level 0 by séx",
		"count level 0 by age,sex", "count level 0 by job,sex", "count level 0 by job,age", "count level 0 by job,age,sex", "count level 0 by sex,job,age", "count level 0 by sex,sex", "count level 0 by sex,age,age", "count level 0 by sex,age,sex", "count level 0 by sex,age,job,job", "count level 0 by sex,age,job,sex,age,job,sex,age",
		"count level 0 where", "count level 0 where ", "count level 0 where  sex=0", "count level 0 where sex", "count level 0 where sex=", "count level 0 where =0", "count level 0 where =", "count level 0 where 0", "count level 0 where sex 0", "count level 0 where sex:0", "count level 0 where sex==0", "count level 0 where sex=0=1", "count level 0 where where", "count level 0 where where sex=0", "count level 0 where sex=0 where age=0",
		"count level 0 where sex=0 ", "count level 0  where sex=0", "count level 0 where sex=0  age=0", "count level 0 where sex=0\tage=0", "count level 0 where sex=0,age=0", "count level 0 where sex=0, age=0", "count level 0 where sex= 0", "count level 0 where sex =0", "count level 0 where age=0, 1", "count level 0 where age=0 ,1", "count level 0 where age=0 1", "count level 0 where sex=0\n",
		"count level 0 where tax=0", "count level 0 where sex=0 tax=0", "count level 0 where tax=0 sex=0", "count level 0 where Sex=0", "count level 0 where se=0", "count level 0 where count=0", "count level 0 where level=0", "count level 0 where s\xffx=0", "count level 0 where sex=\xff",
		"count level 0 where sex=2", "count level 0 where age=3", "count level 0 where job=8", "count level 0 where sex=0,2", "count level 0 where age=0,3", "count level 0 where job=9", "count level 0 where job=7,8", "count level 0 where job=10", "count level 0 where sex=-1", "count level 0 where sex=63", "count level 0 where sex=64",
		"count level 0 where age=1,0", "count level 0 where age=2,1", "count level 0 where age=0,2,1", "count level 0 where age=1,1", "count level 0 where sex=0,0", "count level 0 where age=0,1,1", "count level 0 where sex=0,1,0", "count level 0 where sex=1,0", "count level 0 where job=0,1,2,3,4,5,6,7,7", "count level 0 where age=0,1,2,3",
		"count level 0 where age=,", "count level 0 where age=,1", "count level 0 where age=1,", "count level 0 where age=1,,2", "count level 0 where age=01", "count level 0 where age=00", "count level 0 where age=+1", "count level 0 where age=-0", "count level 0 where age=1.0", "count level 0 where age=0x1", "count level 0 where age=x", "count level 0 where age=all", "count level 0 where all", "count level 0 where age=1-2", "count level 0 where age=１",
		"count level 0 where age=1 sex=0", "count level 0 where job=1 sex=0", "count level 0 where job=1 age=0", "count level 0 where sex=0 job=1 age=0", "count level 0 where sex=0 sex=0", "count level 0 where sex=0 sex=1", "count level 0 where sex=0 age=1 sex=0", "count level 0 where age=1 age=2", "count level 0 where sex=0 age=1 job=2 job=2", "count level 0 where sex=0 age=1 job=2 sex=0 age=1 job=2 sex=0",
		"count level 0 sex=0", "count level 0 sex", "count level 0 sex,age", "count sex=0", "count where sex=0", "count where sex=0 level 0", "where sex=0 count level 0", "count where sex=0 level 0 by sex", "count level 0 where sex=0 by age", "count by sex where age=0", "count by sex level 0 where age=0", "count level 0 by sex sex=0", "count level 0 by where sex=0", "count level 0 by sex where", "count level 0 by sex where ", "count level 0 by sex, where age=0", "count level 0 bysex", "count level 0 by=sex", "count level 0 wheresex=0",
		"count level 0 count level 0", "count level 0\ncount level 0", "count level 0\ncount level 0\n", "count level 0,count level 0", "count level 3 by sex", "count level 1 by sex,age,job,", "sum sex level 1 by age where job=7 x", "sum sex level 1 by age where job=7,", "sum sex level 1 by age where job=7\xff", "all", "count(level 0)", "\"count level 0\"", "count 'level' 0",
		strings.Repeat("count ", 5000), strings.Repeat("sum ", 5000), strings.Repeat("level ", 5000), strings.Repeat("count level 0 ", 5000), "count level 0 by " + strings.Repeat("sex,", 5000) + "age", "count level 0 by sex" + strings.Repeat(",age", 5000), "count level 0 where" + strings.Repeat(" sex=0", 5000), "count level 0 where sex=" + strings.Repeat("0,", 5000) + "1",
		"count level 0 where " + strings.Repeat("a", 9999) + "=0", "count level " + strings.Repeat("0", 9999), "count level " + strings.Repeat("9", 9999), strings.Repeat(" ", 9999), "count level 0" + strings.Repeat(" ", 9999), strings.Repeat("\x00", 9999), strings.Repeat("\xff", 9999), "sum " + strings.Repeat("a", 9999) + " level 0", "count level 0 by " + strings.Repeat(",", 9999), "count level 0 where " + strings.Repeat("=", 9999), strings.Repeat("by where ", 3000),
	} {
		if _, good := tableOfText(g, s, text); good {
			t.Errorf("the oracle reads %q", text)
		}
		u, ok := impl.ParseTable(g, s, text)
		expectTable(t, fmt.Sprintf("ParseTable %.80q", text), u, ok, impl.Table{}, false)
	}
}

// TestParseTableOfWords reads all short lists of words, of variables that are
// named like words too.
func TestParseTableOfWords(t *testing.T) {
	for _, c := range []struct {
		s     []impl.Variable
		words []string
		start string
		count int
	}{
		{schemaOf("sex2", "by2"), []string{"count", "sum", "level", "by", "where", "0", "sex", "by=0"}, "", 5},
		{schemaOf("where2", "level2"), []string{"count", "sum", "level", "where", "by", "level,where", "where=0", "1", ""}, "count level 0", 4},
		{schemaOf("sum2", "count2"), []string{"count", "sum", "level", "0", "by", "where", "sum,count", "count,sum", "count=1", "sum=0,1", "sum="}, "sum sum level 0", 4},
		{schemaOf("by2", "where3"), []string{"by", "where", "by,where", "by=1", "where=2", "where=0,2", "by=0,1", "where=1,0", "where by", " "}, "sum by level 1", 4},
		{schemaOf("a2", "b2", "c2"), []string{"where", "a=0", "a=1", "b=0,1", "b=1", "c=0", "c=1,0", "d=0", "a,b", "by", "="}, "count level 0", 4},
	} {
		texts := []string{c.start}
		for range c.count + 1 {
			var longer []string
			for _, text := range texts {
				checkParseTable(t, tree(0, 0), c.s, strings.TrimPrefix(text, " "))
				for _, word := range c.words {
					longer = append(longer, text+" "+word)
				}
			}
			texts = longer
		}
	}
}

// TestParseTableOfNames reads names in all orders, some of them twice.
func TestParseTableOfNames(t *testing.T) {
	s := schemaOf("sex2", "age3", "b2", "where2")
	names := []string{"sex", "age", "b", "where", "", "x", "by"}
	for n := 1; n <= 5; n++ {
		for _, places := range allNumbers(n, 0, len(names)-1) {
			var used []string
			for _, i := range places {
				used = append(used, names[i])
			}
			list := strings.Join(used, ",")
			checkParseTable(t, tree(0), s, "count level 0 by "+list)
			checkParseTable(t, tree(0), s, "sum age level 1 by "+list+" where b=0")
			checkParseTable(t, tree(0), s, "sum "+list+" level 1")
		}
	}
}

// TestParseTableOfLevels reads short lists of levels in all orders, some of them
// twice, for variables with all numbers of levels.
func TestParseTableOfLevels(t *testing.T) {
	for n := 1; n <= 4; n++ {
		for _, levels := range allNumbers(n, -1, 9) {
			list := strings.ReplaceAll(strings.Trim(fmt.Sprint(levels), "[]"), " ", ",")
			for count := 2; count <= 8; count += 3 {
				s := []impl.Variable{{Name: "b", Levels: 2}, {Name: "a", Levels: count}}
				checkParseTable(t, tree(0), s, "count level 1 by a where a="+list)
			}
		}
	}
	all := "0,1,2,3,4,5,6,7,8,9"
	for count := 2; count <= 8; count++ {
		s := []impl.Variable{{Name: "a", Levels: count}}
		for end := 1; end <= len(all); end++ {
			checkParseTable(t, tree(), s, "count level 0 where a="+all[:end])
			checkParseTable(t, tree(), s, "count level 0 where a="+all[end-1:])
		}
	}
}

// TestParseTableOfChangedTexts changes, inserts and deletes each byte.
func TestParseTableOfChangedTexts(t *testing.T) {
	g := tree(0, 0, 1, 1)
	for _, c := range []struct {
		s    []impl.Variable
		text string
	}{
		{schemaOf("sex2", "age3"), "count level 0"},
		{schemaOf("sex2", "age3"), "sum age level 2 by sex,age where sex=1 age=0,2"},
		{schemaOf("s2", "a3", "se2", "sex4"), "sum s level 1 by a,sex where s=0,1 sex=3"},
		{schemaOf("where2", "by3"), "sum by level 1 by where,by where where=0 by=1,2"},
		{schemaOf("a8"), "count level 1 where a=0,1,2,3,4,5,6,7"},
		{schemaOf("b2", "c2", "d2", "e2", "f2", "g2"), "count level 1 where b=0 c=0 d=0 e=0 f=0 g=0"},
	} {
		for place := range len(c.text) + 1 {
			for end := place; end <= len(c.text); end++ {
				checkParseTable(t, g, c.s, c.text[:place]+c.text[end:])
				checkParseTable(t, g, c.s, c.text[:end]+c.text[place:])
			}
			for b := range 256 {
				letter := string([]byte{byte(b)})
				checkParseTable(t, g, c.s, c.text[:place]+letter+c.text[place:])
				if place < len(c.text) {
					checkParseTable(t, g, c.s, c.text[:place]+letter+c.text[place+1:])
				}
			}
		}
	}
}

// TestTablesSuitTheirPlaceOnly reads texts with other schemas and geographies.
func TestTablesSuitTheirPlaceOnly(t *testing.T) {
	r := rand.New(rand.NewSource(93))
	schemas := append(smallSchemas(), schemaOf("age3", "sex2"), schemaOf("sex2", "age4"), schemaOf("sex3", "age3"), schemaOf("sexy2", "age3"), largestSchema())
	for _, s := range schemas {
		for _, g := range []impl.Geo{tree(), tree(0, 0), chain(12), star(30)} {
			for range 3 {
				text := textOfTable(s, randomTable(r, g, s))
				for _, other := range schemas {
					checkParseTable(t, g, other, text)
				}
				for _, other := range []impl.Geo{tree(), tree(0, 0), chain(9), chain(30), star(26), star(30)} {
					checkParseTable(t, other, s, text)
				}
			}
		}
	}
}

func TestNormalTableExamples(t *testing.T) {
	g, s := tree(0, 0), schemaOf("sex2", "age3", "job8")
	for _, c := range []struct{ where, want []int }{
		{[]int{0, 0, 0}, []int{0, 0, 0}}, {[]int{3, 7, 255}, []int{0, 0, 0}}, {[]int{3, 0, 0}, []int{0, 0, 0}}, {[]int{0, 0, 255}, []int{0, 0, 0}},
		{[]int{1, 3, 127}, []int{1, 3, 127}}, {[]int{2, 6, 254}, []int{2, 6, 254}}, {[]int{3, 5, 255}, []int{0, 5, 0}}, {[]int{1, 7, 3}, []int{1, 0, 3}}, {[]int{0, 3, 7}, []int{0, 3, 7}},
	} {
		for level := range 2 {
			for _, vars := range [][]int{nil, {0}, {1, 2}} {
				for sum := -1; sum < 3; sum++ {
					u, want := impl.Table{Level: level, Vars: vars, Where: c.where, Sum: sum}, impl.Table{Level: level, Vars: vars, Where: c.want, Sum: sum}
					normal, ok := impl.NormalTable(g, s, u)
					expectTable(t, fmt.Sprint("NormalTable ", u), normal, ok, want, true)
				}
			}
		}
	}
}

// TestNormalTables goes through all tables of small schemas. A normal table is
// its own.
func TestNormalTables(t *testing.T) {
	for _, s := range [][]impl.Variable{schemaOf("b2"), schemaOf("z8"), schemaOf("sex2", "age3"), schemaOf("b2", "a2", "c2")} {
		for _, g := range []impl.Geo{tree(), tree(0, 0, 1)} {
			for _, u := range tablesWith(g, s, allWheres(s)) {
				normal, ok := impl.NormalTable(g, s, u)
				expectTable(t, fmt.Sprint("NormalTable ", g, s, u), normal, ok, normalOf(s, u), true)
				again, ok := impl.NormalTable(g, s, normal)
				expectTable(t, fmt.Sprint("NormalTable of NormalTable ", g, s, u), again, ok, normal, true)
				same, ok := impl.SameMeaning(g, s, u, normal)
				expectBool(t, fmt.Sprint("SameMeaning of NormalTable ", g, s, u), same, ok, true, true)
			}
		}
	}
}

func TestSameMeaningOfAllPairs(t *testing.T) {
	for _, s := range [][]impl.Variable{schemaOf("b2"), schemaOf("age3"), schemaOf("b2", "a2")} {
		g := tree(0, 0, 1)
		tables := tablesWith(g, s, allWheres(s))
		for _, a := range tables {
			meaning := meaningOf(s, a)
			for _, b := range tables {
				same, ok := impl.SameMeaning(g, s, a, b)
				if want := meaning == meaningOf(s, b); same != want || !ok {
					t.Error("SameMeaning", s, a, b, same, ok)
				}
			}
		}
	}
}

// TestSameMeaningLooksAtEachElement changes one element of a table.
func TestSameMeaningLooksAtEachElement(t *testing.T) {
	r := rand.New(rand.NewSource(94))
	g := tree(0, 0, 1, 1)
	for _, s := range append(smallSchemas(), largestSchema()) {
		for range 20 {
			u := randomTable(r, g, s)
			same, ok := impl.SameMeaning(g, s, u, otherWriting(r, s, u))
			expectBool(t, fmt.Sprint("SameMeaning of two writings ", s, u), same, ok, true, true)
			for level := range 3 {
				expectMeaning(t, g, s, u, impl.Table{Level: level, Vars: u.Vars, Where: u.Where, Sum: u.Sum}, level == u.Level)
			}
			for sum := -1; sum < len(s); sum++ {
				expectMeaning(t, g, s, u, impl.Table{Level: u.Level, Vars: u.Vars, Where: u.Where, Sum: sum}, sum == u.Sum)
			}
			for v := range len(s) {
				expectMeaning(t, g, s, u, impl.Table{Level: u.Level, Vars: []int{v}, Where: u.Where, Sum: u.Sum}, slices.Equal(u.Vars, []int{v}))
			}
			for i, v := range s {
				sets := setsOf(v.Levels)
				all := sets[len(sets)-1]
				for _, set := range []int{0, 1, 2, all - 1, all, sets[r.Intn(len(sets))]} {
					other := normalOf(s, u)
					other.Where[i] = set
					expectMeaning(t, g, s, u, other, set == u.Where[i] || (set == 0 || set == all) && (u.Where[i] == 0 || u.Where[i] == all))
				}
			}
		}
	}
}

// expectMeaning asks for both orders of two tables. The other one need not be
// valid.
func expectMeaning(t *testing.T, g impl.Geo, s []impl.Variable, a, b impl.Table, want bool) {
	t.Helper()
	good := tableIsGood(g, s, b)
	same, ok := impl.SameMeaning(g, s, a, b)
	expectBool(t, fmt.Sprint("SameMeaning ", s, a, b), same, ok, good && want, good)
	same, ok = impl.SameMeaning(g, s, b, a)
	expectBool(t, fmt.Sprint("SameMeaning ", s, b, a), same, ok, good && want, good)
}

func TestSameMeaningRefuses(t *testing.T) {
	for _, s := range append(smallSchemas(), largestSchema()) {
		for _, g := range unevenGeos() {
			good := countTable(s, 0)
			for _, u := range wrongTables(g, s) {
				expectMeaning(t, g, s, good, u, true)
				same, ok := impl.SameMeaning(g, s, u, u)
				expectBool(t, fmt.Sprintf("SameMeaning %.200s", fmt.Sprint(g, s, u)), same, ok, false, false)
			}
		}
	}
}
