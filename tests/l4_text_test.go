package tests

import (
	"fmt"
	"math/rand"
	"regexp"
	"strconv"
	"strings"
	"testing"

	"loop.example/g00908/impl"
)

var numberForm = regexp.MustCompile(`[0-9]+`)

func TestGeoTextExamples(t *testing.T) {
	cases := []struct {
		g    impl.Geo
		want string
	}{
		{tree(), "0"},
		{tree(0), "0(1)"},
		{tree(0, 0), "0(1 2)"},
		{tree(0, 1), "0(1(2))"},
		{tree(0, 0, 1), "0(1(3) 2)"},
		{tree(0, 0, 2), "0(1 2(3))"},
		{tree(0, 0, 1, 2, 1, 2), "0(1(3 5) 2(4 6))"},
		{tree(0, 1, 0, 3, 1, 0), "0(1(2 5) 3(4) 6)"},
		{tree(0, 0, 0, 0, 0, 0, 0, 0, 0, 0, 1, 10), "0(1(11) 2 3 4 5 6 7 8 9 10(12))"},
		{chain(12), "0(1(2(3(4(5(6(7(8(9(10(11)))))))))))"},
		{star(30), "0(1 2 3 4 5 6 7 8 9 10 11 12 13 14 15 16 17 18 19 20 21 22 23 24 25 26 27 28 29)"},
	}
	for _, c := range cases {
		text, ok := impl.GeoText(c.g)
		expectText(t, fmt.Sprint("GeoText ", c.g), text, ok, c.want, true)
		g, ok := impl.ParseGeo(c.want)
		expectGeo(t, "ParseGeo "+c.want, g, ok, c.g, true)
	}
}

func TestGeoTextsAreReadBack(t *testing.T) {
	r := rand.New(rand.NewSource(43))
	for range 2000 {
		g := randomGeo(r, 1+r.Intn(30), 1+r.Intn(30))
		text, ok := impl.GeoText(g)
		expectText(t, fmt.Sprint("GeoText ", g), text, ok, textOfGeo(g), true)
		back, ok := impl.ParseGeo(text)
		expectGeo(t, "ParseGeo "+text, back, ok, g, true)
	}
}

// checkParseGeo compares ParseGeo with the oracle, and what it returns with
// the text.
func checkParseGeo(t *testing.T, text string) {
	t.Helper()
	want, wantOK := geoOfText(text)
	got, ok := impl.ParseGeo(text)
	expectGeo(t, fmt.Sprintf("ParseGeo %q", text), got, ok, want, wantOK)
	if !ok {
		return
	}
	back, ok := impl.GeoText(got)
	expectText(t, fmt.Sprintf("GeoText of ParseGeo %q", text), back, ok, text, true)
}

func TestParseGeoRefuses(t *testing.T) {
	for _, text := range []string{
		"", " ", "(", ")", "()", "(0)", "((0))", "0()", "0( )", "0(())", "0(", "0)", "0 ", " 0", "0 1", "0 0", "1", "2", "29", "30", "-1", "-0", "+0", "00", "0\n", "\n0", "0\x00", "\x000",
		"0(1", "0 1)", "0(1))", "0((1))", "0((1)", "(0(1)", "(0(1))", "0(1)(2)", "0(1)2", "0(1) ", " 0(1)", "0 (1)", "0( 1)", "0(1 )", "0(1  2)", "0(1\t2)", "0(1\n2)", "0(1,2)", "0(1, 2)", "0(1\u00a02)",
		"0[1 2]", "0{1 2}", "0<1 2>", "0(1 2]", "0(2)", "0(2 1)", "0(1 1)", "0(0)", "0(0 1)", "0(1 0)", "0(1(0))", "0(1(1))", "0(1(2) 2)", "0(1 2(2))", "0(1 2(1))", "0(1 3)", "0(1(3) 3)", "0(2(1))",
		"0(1(2 4) 2)", "0(1(4 3) 2)", "0(2 1(3 4))", "0(1(3 4)2)", "0(1(3 4)) 2", "0(1(3 4) 2))", "0(1(3 4) 2", "0(1(3 4 2)", "0(13 4) 2)", "0(1(3 4) 2)0", "0(1(3 4) 2)x", "0(1(3 4) 2)\n", "0(1(3 4) 2) ", "0(1(3 4) 2)0(1(3 4) 2)",
		"0(1() 2)", "0(1 ())", "0(1 2())", "0(1 2)()", "()0(1 2)", "1(2(4 5) 3)", "1(0)", "1(0 2)", "2(0 1)", "0(1 5)", "0(1 30)", "0(30)", "0(31)",
		"0(+1)", "0(-1)", "0(01)", "0(1 +2)", "0(1 02)", "0(1 -2)", "+0(1)", "-0(1)", "00(1)", "0(1.0)", "0(1e0)", "0(0x1)", "0(0b1)", "0(1_)", "0(_1)", "0(a)", "a", "a(b)", "0(1 b)",
		"0(１)", "０(1)", "٠(١)", "0(١)", "0(1 ٢)", "0(¹)", "\xff", "0(\xff)", "0(1\xff)", "0（1）", "0(1 2）",
		"0(4294967297)", "0(18446744073709551617)", "18446744073709551616(1)", "0(9223372036854775807)", "0(9223372036854775808)", "0(-9223372036854775808)", "0(1 256)", "0(257)",
		textOfGeo(chain(31)), textOfGeo(star(31)), textOfGeo(broom(20, 31)), textOfGeo(chain(30)) + ")", textOfGeo(star(30)) + " 30", strings.Replace(textOfGeo(star(30)), ")", " 30)", 1),
		strings.Replace(textOfGeo(chain(30)), "29", "29(30)", 1), strings.Replace(textOfGeo(chain(30)), "29", "(29)", 1), strings.Replace(textOfGeo(chain(30)), "29", "29()", 1), strings.Replace(textOfGeo(chain(30)), "29", "30", 1),
		strings.Repeat("0", 10000), strings.Repeat("9", 10000), strings.Repeat("(", 10000), strings.Repeat(")", 10000), strings.Repeat(" ", 10000), strings.Repeat("0(", 10000), strings.Repeat("0 ", 10000),
		strings.Repeat("()", 10000), "0" + strings.Repeat("(1", 10000), "0(" + strings.Repeat("1 ", 10000) + ")", "0" + strings.Repeat("(1)", 10000), "0(1)" + strings.Repeat(" ", 10000), "0" + strings.Repeat("(", 10000) + "1" + strings.Repeat(")", 10000),
	} {
		if _, good := geoOfText(text); good {
			t.Errorf("the oracle reads %q", text)
		}
		g, ok := impl.ParseGeo(text)
		expectGeo(t, fmt.Sprintf("ParseGeo %.80q", text), g, ok, impl.Geo{}, false)
	}
}

// TestParseGeoCountsAreas reads texts of geographies of all lengths about
// MaxNodes.
func TestParseGeoCountsAreas(t *testing.T) {
	for n := 1; n <= 120; n++ {
		for _, g := range []impl.Geo{chain(n), star(n), broom((n+1)/2, n)} {
			back, ok := impl.ParseGeo(textOfGeo(g))
			if n > 30 {
				g = impl.Geo{}
			}
			expectGeo(t, fmt.Sprint("ParseGeo of areas ", n), back, ok, g, n <= 30)
		}
	}
}

// TestParseGeoOfShortTexts reads all short texts of some bytes. Those that are
// texts of geographies are as many as there are geographies.
func TestParseGeoOfShortTexts(t *testing.T) {
	for _, c := range []struct {
		letters string
		length  int
		want    int
	}{{"012() ", 7, 4}, {"0123()", 7, 3}, {"01()-+\n", 5, 2}, {"0129()x", 5, 2}} {
		texts, read := []string{""}, 0
		for range c.length + 1 {
			var longer []string
			for _, text := range texts {
				checkParseGeo(t, text)
				if _, ok := impl.ParseGeo(text); ok {
					read++
				}
				for i := range len(c.letters) {
					longer = append(longer, text+c.letters[i:i+1])
				}
			}
			texts = longer
		}
		if read != c.want {
			t.Errorf("texts of %q that are read: %d", c.letters, read)
		}
	}
}

// TestParseGeoOfWords reads all short lists of words.
func TestParseGeoOfWords(t *testing.T) {
	words := []string{"0(", "1", "2", "3(", "3", " ", "(", ")"}
	texts := []string{""}
	for range 7 {
		var longer []string
		for _, text := range texts {
			checkParseGeo(t, text)
			checkParseGeo(t, "0("+text+")")
			for _, word := range words {
				longer = append(longer, text+word)
			}
		}
		texts = longer
	}
}

// TestParseGeoOfChangedTexts changes, inserts and deletes each byte.
func TestParseGeoOfChangedTexts(t *testing.T) {
	for _, g := range []impl.Geo{tree(), tree(0), tree(0, 0, 1, 1), tree(0, 1, 0, 3, 1, 0), chain(12), star(12), chain(30), broom(15, 30)} {
		text := textOfGeo(g)
		for place := range len(text) + 1 {
			for end := place; end <= len(text); end++ {
				checkParseGeo(t, text[:place]+text[end:])
				checkParseGeo(t, text[place:end])
			}
			for c := range 256 {
				letter := string([]byte{byte(c)})
				checkParseGeo(t, text[:place]+letter+text[place:])
				if place < len(text) {
					checkParseGeo(t, text[:place]+letter+text[place+1:])
				}
			}
		}
	}
}

// withNumbers writes numbers in the place of the areas of a text.
func withNumbers(text string, numbers []int) string {
	return numberForm.ReplaceAllStringFunc(text, func(word string) string {
		area, err := strconv.Atoi(word)
		if err != nil {
			panic(word)
		}
		return strconv.Itoa(numbers[area])
	})
}

// TestParseGeoOfOtherNumbers reads areas in all orders, twice and missing.
func TestParseGeoOfOtherNumbers(t *testing.T) {
	for _, g := range fewAreas(5) {
		n := len(g.Parents)
		for _, numbers := range allNumbers(n, -1, n) {
			checkParseGeo(t, withNumbers(textOfGeo(g), numbers))
		}
	}
	for _, g := range largeGeos() {
		for i := range g.Parents {
			for k := range g.Parents {
				numbers := make([]int, len(g.Parents))
				for area := range numbers {
					numbers[area] = area
				}
				numbers[i] = k
				checkParseGeo(t, withNumbers(textOfGeo(g), numbers))
				numbers[k] = i
				checkParseGeo(t, withNumbers(textOfGeo(g), numbers))
			}
		}
	}
}
