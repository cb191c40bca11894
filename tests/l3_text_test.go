package tests

import (
	"fmt"
	"math/rand"
	"strings"
	"testing"

	"loop.example/g00908/impl"
)

func TestDataTextExamples(t *testing.T) {
	cases := []struct {
		s    []impl.Variable
		l    []impl.Record
		want string
	}{
		{schemaOf("sex2", "age3", "job5"), []impl.Record{person(3, 12, 0, 1, 4)}, "3 12 014\n"},
		{schemaOf("sex2", "age3", "job5"), nil, ""},
		{schemaOf("b2"), []impl.Record{person(0, 0, 1), person(29, 999, 0)}, "0 0 1\n29 999 0\n"},
		{schemaOf("b2"), []impl.Record{person(29, 999, 0), person(0, 0, 1), person(0, 0, 1)}, "29 999 0\n0 0 1\n0 0 1\n"},
		{largestSchema(), []impl.Record{person(10, 100, 7, 6, 5, 4, 3, 2)}, "10 100 765432\n"},
		{schemaOf("b2", "a8"), []impl.Record{person(9, 10, 0, 0), person(9, 10, 1, 7)}, "9 10 00\n9 10 17\n"},
	}
	for _, c := range cases {
		text, ok := impl.DataText(c.s, c.l)
		expectText(t, fmt.Sprint("DataText ", c.s, c.l), text, ok, c.want, true)
		l, ok := impl.ParseData(c.s, c.want)
		expectData(t, "ParseData "+c.want, l, ok, c.l, true)
	}
}

// checkParseData compares ParseData with the oracle, and what it returns with
// the text.
func checkParseData(t *testing.T, s []impl.Variable, text string) {
	t.Helper()
	want, wantOK := dataOfText(s, text)
	got, ok := impl.ParseData(s, text)
	expectData(t, fmt.Sprintf("ParseData %v %q", s, text), got, ok, want, wantOK)
	if !ok {
		return
	}
	back, ok := impl.DataText(s, got)
	expectText(t, fmt.Sprintf("DataText of ParseData %v %q", s, text), back, ok, text, true)
}

func TestParseDataRefuses(t *testing.T) {
	s := schemaOf("sex2", "age3", "job5")
	for _, text := range []string{
		"\n", "\n\n", " ", "  \n", "3", "3 12 014", "3 12 014\r\n", "3 12 014 \n", " 3 12 014\n", "3  12 014\n", "3 12  014\n", "3\t12 014\n", "3 12 014\n\n",
		"\n3 12 014\n", "3 12 014\n\n3 12 014\n", "3 12 014\n3 12 014", "3 12 014\n ", "3 12 014\n\x00", "03 12 014\n", "3 012 014\n", "+3 12 014\n", "3 +12 014\n",
		"-3 12 014\n", "3 -12 014\n", "-0 0 000\n", "0 -0 000\n", "+0 0 000\n", "00 0 000\n", "0 00 000\n", "3 12 +14\n", "3 12 -14\n", "3 12 0-4\n",
		"3 12 0 1 4\n", "3 12 0,1,4\n", "3 12 01\n", "3 12 0144\n", "3 12 0\n", "3 12 \n", "3 12\n", "3 \n", "3\n", "30 12 014\n", "29 1000 014\n", "3 12 214\n", "3 12 034\n",
		"3 12 015\n", "3 12 019\n", "3 12 01:\n", "3 12 01/\n", "3 12 01\x00\n", "3 12 01\xff\n", "3 12 01\u0664\n", "3 12 ٠14\n", "٣ 12 014\n", "３ 12 014\n", "3.0 12 014\n", "3e0 12 014\n",
		"0x3 12 014\n", "0b1 12 014\n", "0_3 12 014\n", "1_0 12 014\n", "3 1_2 014\n", "12 014\n", "3 12 014\x0b", "3 12 014\u2028", "3 12 014\n;", "a b 014\n", "3 12 abc\n",
		"9223372036854775807 12 014\n", "9223372036854775808 12 014\n", "-9223372036854775808 12 014\n", "3 9223372036854775807 014\n", "3 18446744073709551628 014\n", "18446744073709551619 12 014\n",
		"4294967299 12 014\n", "3 4294967308 014\n", "3,12,014\n", "3 12 014,3 12 014\n", "3 12 014 3 12 014\n", "3 12 014\n3 12 015\n", "3 12 015\n3 12 014\n",
		strings.Repeat("3", 9999), strings.Repeat("0", 9999) + " 12 014\n", "3 12 " + strings.Repeat("0", 9999) + "\n", strings.Repeat("\n", 9999), strings.Repeat(" ", 9999), "3 " + strings.Repeat("9", 5000) + " 014\n",
	} {
		if _, good := dataOfText(s, text); good {
			t.Errorf("the oracle reads %q", text)
		}
		l, ok := impl.ParseData(s, text)
		expectData(t, fmt.Sprintf("ParseData %.80q", text), l, ok, nil, false)
	}
}

// TestParseDataCountsLines adds lines until there are too many.
func TestParseDataCountsLines(t *testing.T) {
	s := schemaOf("b2")
	for n := range 50 {
		for _, line := range []string{"0 0 0\n", "29 999 1\n"} {
			text := strings.Repeat(line, n)
			l, ok := impl.ParseData(s, text)
			if ok != (n <= 40) || ok && len(l) != n || !ok && l != nil {
				t.Error("ParseData of lines", n, len(l), ok)
			}
			for _, end := range []string{"\n", "0", "0 0 0", " ", "x"} {
				l, ok := impl.ParseData(s, text+end)
				expectData(t, fmt.Sprintf("ParseData %q", text+end), l, ok, nil, false)
			}
		}
	}
	for _, n := range []int{80, 81, 82, 1000, 100000} {
		l, ok := impl.ParseData(s, strings.Repeat("0 0 0\n", n))
		expectData(t, fmt.Sprint("ParseData of lines ", n), l, ok, nil, false)
	}
}

// TestParseDataOfShortTexts reads all short texts of some bytes.
func TestParseDataOfShortTexts(t *testing.T) {
	for _, bytes := range []string{"02 \n", "01 \n-+", "9 \n\r"} {
		texts := []string{""}
		for range 7 {
			var longer []string
			for _, text := range texts {
				checkParseData(t, schemaOf("z8"), text)
				for i := range len(bytes) {
					longer = append(longer, text+bytes[i:i+1])
				}
			}
			texts = longer
		}
		for _, text := range texts {
			checkParseData(t, schemaOf("b2"), text)
		}
	}
}

// TestParseDataOfChangedTexts changes, inserts and deletes each byte.
func TestParseDataOfChangedTexts(t *testing.T) {
	r := rand.New(rand.NewSource(37))
	for _, s := range smallSchemas() {
		text := textOfData(append(randomData(r, s, 3), farRecord(s)))
		for place := range len(text) {
			checkParseData(t, s, text[:place]+text[place+1:])
			checkParseData(t, s, text[:place])
			checkParseData(t, s, text[place:])
			for c := range 256 {
				checkParseData(t, s, text[:place]+string([]byte{byte(c)})+text[place:])
				checkParseData(t, s, text[:place]+string([]byte{byte(c)})+text[place+1:])
			}
		}
	}
}

// TestParseDataOfAllNumbers reads each area and each house, and some beyond.
func TestParseDataOfAllNumbers(t *testing.T) {
	s := schemaOf("sex2", "age3")
	for n := -1100; n <= 1100; n++ {
		checkParseData(t, s, fmt.Sprintf("%d 0 00\n", n))
		checkParseData(t, s, fmt.Sprintf("0 %d 12\n", n))
		checkParseData(t, s, fmt.Sprintf("0 0 %d\n", n))
		checkParseData(t, s, fmt.Sprintf("0 0 %02d\n", n))
		checkParseData(t, s, fmt.Sprintf("%02d 0 00\n", n))
		checkParseData(t, s, fmt.Sprintf("0 %03d 00\n", n))
		checkParseData(t, s, fmt.Sprintf("29 999 12\n1 %d 00\n", n))
	}
}

// TestDataSuitTheirSchemaOnly reads texts with schemas of other lengths and
// levels.
func TestDataSuitTheirSchemaOnly(t *testing.T) {
	r := rand.New(rand.NewSource(38))
	for _, s := range smallSchemas() {
		l := append(randomData(r, s, 5), farRecord(s))
		for _, other := range smallSchemas() {
			checkParseData(t, other, textOfData(l))
			is, ok := impl.IsData(other, l)
			expectBool(t, fmt.Sprint("IsData ", other, l), is, ok, dataAreGood(other, l), true)
		}
	}
}
