package tests

import (
	"fmt"
	"math/rand"
	"strings"
	"testing"

	"loop.example/g00908/impl"
)

func TestEditTextExamples(t *testing.T) {
	s := schemaOf("sex2", "age3", "all8")
	for _, c := range []struct {
		e    impl.Edit
		want string
	}{
		{edit(3, 7, 255), "all"},
		{edit(1, 7, 255), "sex=0"},
		{edit(2, 7, 255), "sex=1"},
		{edit(3, 1, 255), "age=0"},
		{edit(3, 4, 255), "age=2"},
		{edit(3, 5, 255), "age=0,2"},
		{edit(3, 6, 255), "age=1,2"},
		{edit(3, 7, 1), "all=0"},
		{edit(3, 7, 128), "all=7"},
		{edit(3, 7, 127), "all=0,1,2,3,4,5,6"},
		{edit(3, 7, 254), "all=1,2,3,4,5,6,7"},
		{edit(3, 7, 170), "all=1,3,5,7"},
		{edit(1, 6, 255), "sex=0 age=1,2"},
		{edit(2, 7, 129), "sex=1 all=0,7"},
		{edit(3, 3, 8), "age=0,1 all=3"},
		{edit(1, 2, 4), "sex=0 age=1 all=2"},
	} {
		text, ok := impl.EditText(s, c.e)
		expectText(t, fmt.Sprint("EditText ", c.e), text, ok, c.want, true)
		e, ok := impl.ParseEdit(s, c.want)
		expectEdit(t, "ParseEdit "+c.want, e, ok, c.e, true)
	}
}

// TestEditTextsAreReadBack goes through all edits of some schemas, and random
// ones of others.
func TestEditTextsAreReadBack(t *testing.T) {
	r := rand.New(rand.NewSource(58))
	for _, s := range append(smallSchemas(), largestSchema()) {
		l := randomEdits(r, s, 200)
		if len(s) <= 2 {
			l = append(l, allEdits(s)...)
		}
		for _, e := range l {
			text, ok := impl.EditText(s, e)
			expectText(t, fmt.Sprint("EditText ", s, e), text, ok, textOfEdit(s, e), true)
			back, ok := impl.ParseEdit(s, text)
			expectEdit(t, fmt.Sprint("ParseEdit ", s, text), back, ok, e, true)
		}
	}
}

// checkParseEdit compares ParseEdit with the oracle, and what it returns with
// the text.
func checkParseEdit(t *testing.T, s []impl.Variable, text string) {
	t.Helper()
	want, wantOK := editOfText(s, text)
	got, ok := impl.ParseEdit(s, text)
	expectEdit(t, fmt.Sprintf("ParseEdit %v %q", s, text), got, ok, want, wantOK)
	if !ok {
		return
	}
	back, ok := impl.EditText(s, got)
	expectText(t, fmt.Sprintf("EditText of ParseEdit %v %q", s, text), back, ok, text, true)
}

func TestParseEditRefuses(t *testing.T) {
	s := schemaOf("sex2", "age3", "job8")
	for _, text := range []string{
		"", " ", "  ", "=", ",", "0", "1", "x", "\n", "\x00", "\xff", "sex", "sex=", "=0", "age=", "age=,", "sex 0", "sex:0", "sex0", "sex==0", "sex=0=1", "sex=0=", "=sex=0",
		"all ", " all", "all\n", "\nall", "ALL", "All", "al", "alll", "all all", "all=", "all=0", "all,all", "all sex=0", "sex=0 all", "sex=0 all age=1", "age=all", "sex=0 age=all", "all\x00", "any", "none", "*",
		"tax=0", "se=0", "sexx=0", "Sex=0", "SEX=0", "s=0", "sex=0 tax=1", "tax=1 sex=0", "ag=1 age=1", "sex=0 age=1 zzz=0", "séx=0", "ｓｅｘ=0", "sex\x00=0", "sexage=0", "sex,age=0", "sex age=0",
		"age=1 sex=0", "job=1 sex=0", "job=1 age=0", "job=1 age=0 sex=1", "age=0 sex=0 job=0", "sex=0 job=0 age=0",
		"sex=0 sex=0", "sex=0 sex=1", "age=1 age=2", "age=1,2 age=1,2", "sex=0 age=1 age=1", "sex=0 age=1 sex=0", "job=0 job=1", "sex=0 age=1 job=2 job=2", "sex=0 age=1 job=2 sex=0",
		"age=2,1", "age=1,0", "age=2,0", "job=1,3,2", "job=7,6", "job=0,2,1,3", "sex=0 age=2,1", "job=7,0",
		"age=1,1", "age=0,0", "age=2,2", "job=1,1,2", "job=1,2,2", "job=1,2,1", "sex=0,0", "age=1,1,1", "job=0,1,2,3,4,5,6,6",
		"sex=2", "age=3", "job=8", "job=9", "sex=0,2", "age=1,3", "age=3,4", "job=7,8", "sex=7", "age=7", "job=10", "job=12", "sex=2 age=0", "sex=0 age=3", "age=1,10", "age=64", "sex=64", "job=63", "job=62,63", "job=65",
		"age=+1", "age=-1", "age=-0", "age=+0", "age=1,+2", "age=1,-2", "sex=-2", "age=--1", "+age=1", "-age=1", "age=~1",
		"age=01", "age=00", "age=001", "age=1,02", "age=01,2", "sex=00", "job=07", "age=0x1", "age=0b1", "age=0o1", "age=1_", "age=_1", "age=1.0", "age=1e0", "age=1.", "age=a", "age=1a", "age=a1",
		" age=1", "age=1 ", "age =1", "age= 1", "age=1, 2", "age=1 ,2", "age=1 2", "ag e=1", "sex=0  age=1", " sex=0 age=1", "sex=0 age=1 ", "sex=0\tage=1", "sex=0\nage=1", "sex=0,age=1", "sex=0, age=1", "sex=0;age=1", "sex=0\u00a0age=1", "sex=0age=1",
		"age=\t1", "age=1\t", "age=1\r", "age=1\n", "age=1\n\n", "\nage=1", "age=1\x00", "\ufeffage=1",
		"sex=0,1", "age=0,1,2", "job=0,1,2,3,4,5,6,7", "sex=0,1 age=1", "sex=0 age=0,1,2", "sex=0,1 age=0,1,2", "sex=0,1 age=0,1,2 job=0,1,2,3,4,5,6,7", "age=1 job=0,1,2,3,4,5,6,7",
		"age=1,", "age=,1", "age=1,,2", "age=,", "age=,,", "sex=0, age=1", "age=1,2,", "age=1,2,x", "sex=0 age=1,2x", "sex=0 age=1,2 x", "sex=0 age=1,2\n", "sex=0 age=1,2 0", "sex=0 age=1,2 =0", "sex=0 age=1,2=", "sex=0 age=1,2;", "sex=0 age=1,2 age", "sex=0 =1",
		"age={1}", "age=[1]", "age=(1)", "age=1-2", "age=1..2", "age=1|2", "age=1&2", "age!=1", "age<=1", "age≠1", "age＝1", "age=1，2", "age=１", "age=١", "age=²", "age=1\u0662", "age=\"1\"", "\"age=1\"",
		"age=9223372036854775807", "age=9223372036854775808", "age=-9223372036854775808", "age=18446744073709551617", "age=4294967297", "age=257", "age=256", "sex=18446744073709551616",
		strings.Repeat("sex=0 ", 5000), strings.Repeat("sex=0 ", 5000) + "age=1", "age=" + strings.Repeat("1,", 5000) + "2", "age=" + strings.Repeat("0", 9999) + "1", "age=" + strings.Repeat("9", 9999), "age=1" + strings.Repeat(",", 9999),
		strings.Repeat("a", 9999), strings.Repeat("a", 9999) + "=0", strings.Repeat(" ", 9999), strings.Repeat("=", 9999), strings.Repeat("all ", 3000), "sex=0" + strings.Repeat(" age=1", 7), strings.Repeat("\x00", 9999),
	} {
		if _, good := editOfText(s, text); good {
			t.Errorf("the oracle reads %q", text)
		}
		e, ok := impl.ParseEdit(s, text)
		expectEdit(t, fmt.Sprintf("ParseEdit %.80q", text), e, ok, impl.Edit{}, false)
	}
}

// TestParseEditOfShortTexts reads all short texts of some bytes. Those that are
// texts of edits are as many as there are edits with a text of the length.
func TestParseEditOfShortTexts(t *testing.T) {
	for _, c := range []struct {
		s       []impl.Variable
		letters string
		length  int
		want    int
	}{
		{schemaOf("a2", "b2"), "ab=01 ", 7, 8},
		{schemaOf("b3"), "b=012,", 6, 6},
		{schemaOf("l2"), "al=0,\n", 5, 2},
		{schemaOf("a2"), "a=1+-2", 5, 1},
		{schemaOf("z8"), "z=,789", 5, 1},
	} {
		texts, read := []string{""}, 0
		for range c.length + 1 {
			var longer []string
			for _, text := range texts {
				checkParseEdit(t, c.s, text)
				if _, ok := impl.ParseEdit(c.s, text); ok {
					read++
				}
				for i := range len(c.letters) {
					longer = append(longer, text+c.letters[i:i+1])
				}
			}
			texts = longer
		}
		if read != c.want {
			t.Errorf("texts of %q that are read: %d", c.letters, read)
		}
	}
}

// TestParseEditOfWords reads all short lists of words.
func TestParseEditOfWords(t *testing.T) {
	s := schemaOf("b2", "a3", "all4")
	words := []string{"a=", "b=", "all=", "all", "0", "1", "2", ",", " "}
	texts := []string{""}
	for range 6 {
		var longer []string
		for _, text := range texts {
			checkParseEdit(t, s, text)
			for _, word := range words {
				longer = append(longer, text+word)
			}
		}
		texts = longer
	}
}

// TestParseEditOfParts reads parts in all orders, some of them twice, and with
// all levels.
func TestParseEditOfParts(t *testing.T) {
	s := schemaOf("sex2", "age3", "b2", "zz8")
	parts := []string{"sex=0", "sex=1", "sex=0,1", "age=1,2", "age=2,1", "age=0,1,2", "age=3", "b=1", "zz=0,3,7", "zz=0,1,2,3,4,5,6,7", "all", ""}
	for n := 1; n <= 4; n++ {
		for _, places := range allNumbers(n, 0, len(parts)-1) {
			var used []string
			for _, i := range places {
				used = append(used, parts[i])
			}
			checkParseEdit(t, s, strings.Join(used, " "))
		}
	}
}

// TestParseEditOfLevels reads short lists of levels in all orders, some of them
// twice, for variables with all numbers of levels.
func TestParseEditOfLevels(t *testing.T) {
	for n := 1; n <= 4; n++ {
		for _, levels := range allNumbers(n, -1, 9) {
			list := strings.ReplaceAll(strings.Trim(fmt.Sprint(levels), "[]"), " ", ",")
			for count := 2; count <= 8; count += 3 {
				s := []impl.Variable{{Name: "b", Levels: 2}, {Name: "a", Levels: count}}
				checkParseEdit(t, s, "a="+list)
			}
		}
	}
	all := "0,1,2,3,4,5,6,7,8,9"
	for count := 2; count <= 8; count++ {
		for end := 1; end <= len(all); end++ {
			checkParseEdit(t, []impl.Variable{{Name: "a", Levels: count}}, "a="+all[:end])
			checkParseEdit(t, []impl.Variable{{Name: "a", Levels: count}}, "a="+all[end-1:])
		}
	}
}

// TestParseEditOfChangedTexts changes, inserts and deletes each byte.
func TestParseEditOfChangedTexts(t *testing.T) {
	r := rand.New(rand.NewSource(59))
	for _, s := range smallSchemas() {
		for _, e := range []impl.Edit{randomEdit(r, s), randomEdit(r, s), editOfAll(s), editOfValues(make([]int, len(s)))} {
			text := textOfEdit(s, e)
			for place := range len(text) + 1 {
				checkParseEdit(t, s, text[:place])
				checkParseEdit(t, s, text[place:])
				for c := range 256 {
					letter := string([]byte{byte(c)})
					checkParseEdit(t, s, text[:place]+letter+text[place:])
					if place < len(text) {
						checkParseEdit(t, s, text[:place]+letter+text[place+1:])
					}
				}
				if place < len(text) {
					checkParseEdit(t, s, text[:place]+text[place+1:])
				}
			}
		}
	}
}

// TestEditsSuitTheirSchemaOnly reads texts with schemas of other names, lengths
// and levels.
func TestEditsSuitTheirSchemaOnly(t *testing.T) {
	r := rand.New(rand.NewSource(60))
	schemas := append(smallSchemas(), schemaOf("age3", "sex2"), schemaOf("sex2", "age4"), schemaOf("sex3", "age3"), schemaOf("sexy2", "age3"), schemaOf("all2"), schemaOf("all2", "age8"))
	for _, s := range schemas {
		for _, e := range append(randomEdits(r, s, 10), editOfAll(s)) {
			for _, other := range schemas {
				checkParseEdit(t, other, textOfEdit(s, e))
				is, ok := impl.IsEdit(other, e)
				expectBool(t, fmt.Sprint("IsEdit ", other, e), is, ok, editIsGood(other, e), true)
			}
		}
	}
}
