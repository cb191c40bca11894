package tests

import (
	"fmt"
	"math"
	"math/rand"
	"regexp"
	"slices"
	"strconv"
	"strings"
	"testing"

	"loop.example/g00908/impl"
)

// recordIsGood says whether a record is one for a valid schema.
func recordIsGood(s []impl.Variable, r impl.Record) bool {
	good := r.Area >= 0 && r.Area <= 29 && r.House >= 0 && r.House <= 999 && len(r.Values) == len(s)
	for i := 0; good && i < len(s); i++ {
		good = r.Values[i] >= 0 && r.Values[i] < s[i].Levels
	}
	return good
}

// dataAreGood says whether a list is data for a valid schema.
func dataAreGood(s []impl.Variable, l []impl.Record) bool {
	for _, r := range l {
		if !recordIsGood(s, r) {
			return false
		}
	}
	return len(l) <= 40
}

// orderOf says what CompareRecords must return. Area and House decide first,
// as if they stood before the values.
func orderOf(a, b impl.Record) int {
	x, y := append([]int{a.Area, a.House}, a.Values...), append([]int{b.Area, b.House}, b.Values...)
	for i := 0; i < len(x) && i < len(y); i++ {
		if x[i] < y[i] {
			return -1
		}
		if x[i] > y[i] {
			return 1
		}
	}
	return sign(len(x) - len(y))
}

func sameRecord(a, b impl.Record) bool {
	return a.Area == b.Area && a.House == b.House && slices.Equal(a.Values, b.Values)
}

// sortedOf says what SortData must return. It inserts one record after the other.
func sortedOf(l []impl.Record) []impl.Record {
	var sorted []impl.Record
	for _, r := range l {
		place := 0
		for place < len(sorted) && orderOf(sorted[place], r) <= 0 {
			place++
		}
		sorted = slices.Insert(sorted, place, r)
	}
	return sorted
}

// countsOf returns how often each record occurs.
func countsOf(l []impl.Record) map[string]int {
	counts := map[string]int{}
	for _, r := range l {
		counts[fmt.Sprint(r.Area, r.House, r.Values)]++
	}
	return counts
}

// areSame says what SameData must say.
func areSame(a, b []impl.Record) bool {
	x, y := countsOf(a), countsOf(b)
	for r, n := range x {
		if y[r] != n {
			return false
		}
	}
	return len(x) == len(y)
}

// householdsOf says what HouseholdsOf must return.
func householdsOf(l []impl.Record) []impl.Household {
	members := map[[2]int][]int{}
	for i, r := range l {
		place := [2]int{r.Area, r.House}
		members[place] = append(members[place], i)
	}
	var households []impl.Household
	for area := range 30 {
		for house := range 1000 {
			if m := members[[2]int{area, house}]; m != nil {
				households = append(households, impl.Household{Area: area, House: house, Members: m})
			}
		}
	}
	return households
}

// groupedOf says what GroupData must return.
func groupedOf(g impl.Grouping, l []impl.Record) []impl.Record {
	var grouped []impl.Record
	for _, r := range l {
		values := slices.Clone(r.Values)
		values[g.Var] = g.Groups[values[g.Var]]
		grouped = append(grouped, impl.Record{Area: r.Area, House: r.House, Values: values})
	}
	return grouped
}

// textOfData says what DataText must return.
func textOfData(l []impl.Record) string {
	text := ""
	for _, r := range l {
		text += fmt.Sprintf("%d %d ", r.Area, r.House)
		for _, x := range r.Values {
			text += fmt.Sprint(x)
		}
		text += "\n"
	}
	return text
}

var lineForm = regexp.MustCompile(`\A(0|[1-9][0-9]*) (0|[1-9][0-9]*) ([0-9]+)\z`)

// dataOfText says what ParseData must return for a valid schema.
func dataOfText(s []impl.Variable, text string) ([]impl.Record, bool) {
	var l []impl.Record
	for text != "" {
		end := strings.Index(text, "\n")
		if end < 0 {
			return nil, false
		}
		parts := lineForm.FindStringSubmatch(text[:end])
		if parts == nil || len(parts[1]) > 2 || len(parts[2]) > 3 {
			return nil, false
		}
		area, _ := strconv.Atoi(parts[1])
		house, _ := strconv.Atoi(parts[2])
		r := impl.Record{Area: area, House: house}
		for _, digit := range parts[3] {
			r.Values = append(r.Values, int(digit-'0'))
		}
		l = append(l, r)
		text = text[end+1:]
	}
	if !dataAreGood(s, l) {
		return nil, false
	}
	return l, true
}

// person returns a record.
func person(area, house int, values ...int) impl.Record {
	return impl.Record{Area: area, House: house, Values: values}
}

// copyData returns records that share no memory with those of a list.
func copyData(l []impl.Record) []impl.Record {
	copies := make([]impl.Record, len(l))
	for i, r := range l {
		copies[i] = impl.Record{Area: r.Area, House: r.House, Values: slices.Clone(r.Values)}
	}
	return copies
}

// randomData returns n records. Equal records occur often, and the records of
// a household do not lie together.
func randomData(r *rand.Rand, s []impl.Variable, n int) []impl.Record {
	l := make([]impl.Record, n)
	areas, houses := 1+r.Intn(3), 1+r.Intn(3)
	for i := range l {
		l[i] = impl.Record{Area: (r.Intn(areas) * 29) / 2, House: (r.Intn(houses) * 999) / 2, Values: randomValues(r, s)}
		if i > 0 && r.Intn(3) == 0 {
			l[i].Values = slices.Clone(l[r.Intn(i)].Values)
		}
		if i > 0 && r.Intn(3) == 0 {
			l[i] = copyData(l[r.Intn(i):i])[0]
		}
	}
	return l
}

// farRecord has the greatest number everywhere.
func farRecord(s []impl.Variable) impl.Record {
	r := impl.Record{Area: 29, House: 999}
	for _, v := range s {
		r.Values = append(r.Values, v.Levels-1)
	}
	return r
}

// wrongRecords returns records that are not ones for a valid schema.
func wrongRecords(s []impl.Variable) []impl.Record {
	good := make([]int, len(s))
	l := []impl.Record{{}}
	for _, n := range []int{-1, -2, -29, math.MinInt, math.MinInt + 1, math.MaxInt, 1 << 32, 1000, 1001} {
		l = append(l, impl.Record{Area: n, Values: good}, impl.Record{House: n, Values: good}, impl.Record{Area: n, House: n, Values: good})
	}
	l = append(l, impl.Record{Area: 30, Values: good}, impl.Record{Area: 30, House: 999, Values: good}, impl.Record{Area: 999, House: 29, Values: good})
	for _, values := range wrongValues(s) {
		l = append(l, impl.Record{Values: values}, impl.Record{Area: 29, House: 999, Values: values})
	}
	return l
}

// wrongData returns lists that are not data for a valid schema: a wrong record
// among good ones, and too many records.
func wrongData(s []impl.Variable) [][]impl.Record {
	good := []impl.Record{farRecord(s), {Values: make([]int, len(s))}}
	var l [][]impl.Record
	for i, r := range wrongRecords(s) {
		list := slices.Insert(slices.Clone(good), i%3, r)
		l = append(l, list, []impl.Record{r})
	}
	for _, n := range []int{41, 42, 80, 2000} {
		l = append(l, slices.Repeat(good[:1], n))
	}
	return append(l, append(slices.Repeat(good, 20), good[1]))
}

func expectData(t *testing.T, call string, got []impl.Record, ok bool, want []impl.Record, wantOK bool) {
	t.Helper()
	if !slices.EqualFunc(got, want, sameRecord) || ok != wantOK {
		t.Errorf("%.200s is %v %v, not %v %v", call, got, ok, want, wantOK)
	}
}

func expectHouseholds(t *testing.T, call string, got []impl.Household, ok bool, want []impl.Household, wantOK bool) {
	t.Helper()
	same := func(a, b impl.Household) bool {
		return a.Area == b.Area && a.House == b.House && slices.Equal(a.Members, b.Members)
	}
	if !slices.EqualFunc(got, want, same) || ok != wantOK {
		t.Errorf("%.200s is %v %v, not %v %v", call, got, ok, want, wantOK)
	}
}

func expectBool(t *testing.T, call string, got, ok, want, wantOK bool) {
	t.Helper()
	if got != want || ok != wantOK {
		t.Errorf("%.200s is %v %v, not %v %v", call, got, ok, want, wantOK)
	}
}

func expectText(t *testing.T, call string, got string, ok bool, want string, wantOK bool) {
	t.Helper()
	if got != want || ok != wantOK {
		t.Errorf("%.200s is %q %v, not %q %v", call, got, ok, want, wantOK)
	}
}

func TestRecordLimits(t *testing.T) {
	if impl.MaxRecords != 40 || impl.MaxArea != 29 || impl.MaxHouse != 999 {
		t.Error("limits", impl.MaxRecords, impl.MaxArea, impl.MaxHouse)
	}
}

func TestOracleKnowsData(t *testing.T) {
	r := rand.New(rand.NewSource(30))
	for _, s := range smallSchemas() {
		for _, bad := range wrongRecords(s) {
			if recordIsGood(s, bad) {
				t.Error("should not be a record", s, bad)
			}
		}
		for i, bad := range wrongData(s) {
			if dataAreGood(s, bad) {
				t.Error("should not be data", s, i)
			}
		}
		for n := range 41 {
			l := randomData(r, s, n)
			back, ok := dataOfText(s, textOfData(l))
			if !dataAreGood(s, l) || !dataAreGood(s, back) {
				t.Error("should be data", s, l)
			}
			expectData(t, "the oracle", back, ok, l, true)
		}
	}
}
