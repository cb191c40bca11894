package tests

import (
	"fmt"
	"math/rand"
	"slices"
	"testing"

	"loop.example/g00908/impl"
)

// checkDonors calls the functions with data, and gives the values of each record
// and each of the given values to each other.
func checkDonors(t *testing.T, p repair, data []impl.Record, lists [][]int) {
	t.Helper()
	call := fmt.Sprint(p.s, p.l, p.weights, data)
	failing, ok := impl.FailingRecords(p.s, p.l, data)
	expectInts(t, "FailingRecords "+call, failing, ok, p.failingIn(data), true)
	mended, costs, ok := impl.MendData(p.s, p.l, p.weights, data)
	wantMended, wantCosts, wantOK := p.mendedDataOf(data)
	expectMendedData(t, "MendData "+call, mended, costs, ok, wantMended, wantCosts, wantOK)
	for _, values := range lists {
		i, ok := impl.NearestDonor(p.s, p.l, p.weights, data, values)
		want, wantOK := p.donorIn(data, values)
		expectInt(t, fmt.Sprint("NearestDonor ", call, values), i, ok, want, wantOK)
		for _, donor := range lists {
			checkDonorMend(t, p, values, donor)
		}
		for _, r := range data {
			checkDonorMend(t, p, values, r.Values)
			checkDonorMend(t, p, r.Values, values)
		}
	}
}

func checkDonorMend(t *testing.T, p repair, values, donor []int) {
	t.Helper()
	got, used, ok := impl.DonorMend(p.s, p.l, p.weights, values, donor)
	want, wantUsed, wantOK := p.donorMendOf(values, donor)
	expectDonorMend(t, fmt.Sprint("DonorMend ", p.s, p.l, p.weights, values, donor), got, used, ok, want, wantUsed, wantOK)
}

// refusesDonors calls the functions with data and donors.
func refusesDonors(t *testing.T, s []impl.Variable, l []impl.Edit, weights []int, data []impl.Record, values []int) {
	t.Helper()
	call := fmt.Sprintf("%.100s %.100s %.100s %.100s", fmt.Sprint(s), fmt.Sprint(l), fmt.Sprint(weights), fmt.Sprint(values))
	failing, ok := impl.FailingRecords(s, l, data)
	expectInts(t, "FailingRecords "+call, failing, ok, nil, false)
	refusesWeighted(t, s, l, weights, data, values)
}

// refusesWeighted calls those of the functions that have weights.
func refusesWeighted(t *testing.T, s []impl.Variable, l []impl.Edit, weights []int, data []impl.Record, values []int) {
	t.Helper()
	call := fmt.Sprintf("%.100s %.100s %.100s %.100s", fmt.Sprint(s), fmt.Sprint(l), fmt.Sprint(weights), fmt.Sprint(values))
	i, ok := impl.NearestDonor(s, l, weights, data, values)
	expectInt(t, "NearestDonor "+call, i, ok, 0, false)
	mended, costs, ok := impl.MendData(s, l, weights, data)
	expectMendedData(t, "MendData "+call, mended, costs, ok, nil, nil, false)
	got, used, ok := impl.DonorMend(s, l, weights, values, values)
	expectDonorMend(t, "DonorMend "+call, got, used, ok, nil, false, false)
}

func TestFailingRecordsExamples(t *testing.T) {
	s := schemaOf("sex2", "age3")
	l := []impl.Edit{edit(1, 6), edit(2, 4)}
	good, bad, other := person(0, 0, 0, 0), person(29, 999, 0, 1), person(0, 0, 1, 2)
	for _, c := range []struct {
		l    []impl.Edit
		data []impl.Record
		want []int
	}{
		{l, nil, nil},
		{l, []impl.Record{}, nil},
		{nil, []impl.Record{good, bad, other}, nil},
		{l, []impl.Record{good}, nil},
		{l, []impl.Record{good, good, good}, nil},
		{l, []impl.Record{bad}, []int{0}},
		{l, []impl.Record{bad, bad, other, bad}, []int{0, 1, 2, 3}},
		{l, []impl.Record{good, bad, good, bad, other, good}, []int{1, 3, 4}},
		{l[:1], []impl.Record{good, bad, good, bad, other, good}, []int{1, 3}},
		{l[1:], []impl.Record{good, bad, good, bad, other, good}, []int{4}},
		{[]impl.Edit{edit(3, 7)}, []impl.Record{good, good}, []int{0, 1}},
		{l, slices.Repeat([]impl.Record{good, bad}, 20), []int{1, 3, 5, 7, 9, 11, 13, 15, 17, 19, 21, 23, 25, 27, 29, 31, 33, 35, 37, 39}},
	} {
		got, ok := impl.FailingRecords(s, c.l, c.data)
		expectInts(t, fmt.Sprint("FailingRecords ", c), got, ok, c.want, true)
	}
}

func TestNearestDonorExamples(t *testing.T) {
	s := schemaOf("sex2", "age3", "b2")
	l := []impl.Edit{edit(1, 6, 3), edit(2, 4, 3), edit(1, 1, 1)}
	data := []impl.Record{person(0, 0, 0, 1, 0), person(1, 0, 1, 1, 1), person(2, 0, 0, 0, 1), person(3, 0, 1, 0, 0), person(4, 0, 1, 1, 1), person(5, 0, 1, 1, 0)}
	for _, c := range []struct {
		weights []int
		data    []impl.Record
		values  []int
		want    int
		ok      bool
	}{
		{[]int{1, 1, 1}, data, []int{0, 1, 0}, 5, true},
		{[]int{1, 1, 1}, data[:5], []int{0, 1, 0}, 1, true},
		{[]int{3, 1, 1}, data[:5], []int{0, 1, 0}, 2, true},
		{[]int{2, 1, 2}, data[:5], []int{0, 1, 0}, 2, true},
		{[]int{2, 2, 2}, data[:5], []int{0, 1, 0}, 1, true},
		{[]int{1, 1, 9}, data[:5], []int{0, 1, 0}, 3, true},
		{[]int{9, 1, 9}, data, []int{0, 1, 0}, 5, true},
		{[]int{1, 1, 1}, data, []int{1, 1, 1}, 1, true},
		{[]int{1, 1, 1}, data[2:], []int{1, 1, 1}, 2, true},
		{[]int{100, 100, 100}, data[2:3], []int{1, 2, 0}, 0, true},
		{[]int{1, 1, 1}, data[:1], []int{0, 1, 0}, 0, false},
		{[]int{1, 1, 1}, data[:1], []int{1, 1, 0}, 0, false},
		{[]int{1, 1, 1}, nil, []int{1, 1, 0}, 0, false},
		{[]int{1, 1, 1}, slices.Repeat(data[:1], 40), []int{1, 1, 0}, 0, false},
		{[]int{1, 1, 1}, append(slices.Repeat(data[:1], 39), data[2]), []int{1, 1, 0}, 39, true},
		{[]int{1, 1, 1}, slices.Repeat(data[3:4], 40), []int{1, 1, 0}, 0, true},
	} {
		got, ok := impl.NearestDonor(s, l, c.weights, c.data, c.values)
		expectInt(t, fmt.Sprint("NearestDonor ", c), got, ok, c.want, c.ok)
	}
}

func TestDonorMendExamples(t *testing.T) {
	s := schemaOf("sex2", "age3", "b2")
	l := []impl.Edit{edit(1, 6, 3), edit(2, 4, 3), edit(1, 1, 1)}
	for _, c := range []struct {
		l                      []impl.Edit
		weights, values, donor []int
		want                   []int
		used                   bool
	}{
		// Values that fail no edit take nothing from the donor.
		{l, []int{1, 1, 1}, []int{0, 0, 1}, []int{1, 1, 0}, []int{0, 0, 1}, true},
		{l, []int{1, 1, 1}, []int{0, 0, 1}, []int{0, 2, 0}, []int{0, 0, 1}, true},
		// The donor's value mends.
		{l, []int{1, 1, 1}, []int{0, 1, 0}, []int{1, 0, 1}, []int{1, 1, 0}, true},
		{l, []int{3, 1, 1}, []int{0, 1, 0}, []int{0, 0, 1}, []int{0, 0, 1}, true},
		{l, []int{1, 1, 1}, []int{1, 2, 0}, []int{0, 1, 1}, []int{1, 1, 0}, true},
		{l, []int{1, 1, 1}, []int{1, 2, 0}, []int{1, 0, 1}, []int{1, 0, 0}, true},
		// It does not, though the donor fails no edit.
		{l, []int{1, 1, 1}, []int{0, 1, 0}, []int{0, 0, 1}, []int{1, 1, 0}, false},
		{l, []int{3, 1, 1}, []int{0, 1, 0}, []int{1, 1, 1}, []int{0, 0, 1}, false},
		{l, []int{3, 1, 1}, []int{0, 1, 0}, []int{1, 0, 0}, []int{0, 0, 1}, false},
		// The donor fails edits itself, and its values mend or not.
		{l, []int{1, 1, 1}, []int{0, 1, 0}, []int{1, 2, 1}, []int{1, 1, 0}, true},
		{l, []int{1, 1, 1}, []int{0, 1, 0}, []int{0, 0, 0}, []int{1, 1, 0}, false},
		{l, []int{1, 1, 1}, []int{1, 2, 0}, []int{0, 1, 0}, []int{1, 1, 0}, true},
		{l, []int{1, 1, 1}, []int{1, 2, 0}, []int{0, 2, 0}, []int{1, 0, 0}, false},
		{l, []int{1, 1, 1}, []int{0, 1, 0}, []int{0, 1, 0}, []int{1, 1, 0}, false},
		// A mended value need not be the first one if it is the donor's.
		{[]impl.Edit{edit(3, 4, 3)}, []int{1, 1, 1}, []int{1, 2, 1}, []int{0, 1, 0}, []int{1, 1, 1}, true},
		{[]impl.Edit{edit(3, 4, 3)}, []int{1, 1, 1}, []int{1, 2, 1}, []int{0, 2, 0}, []int{1, 0, 1}, false},
		{nil, []int{1, 1, 1}, []int{1, 2, 1}, []int{0, 0, 0}, []int{1, 2, 1}, true},
	} {
		got, used, ok := impl.DonorMend(s, c.l, c.weights, c.values, c.donor)
		expectDonorMend(t, fmt.Sprint("DonorMend ", c), got, used, ok, c.want, c.used, true)
	}
}

func TestMendDataExamples(t *testing.T) {
	s := schemaOf("sex2", "age3")
	l := []impl.Edit{edit(1, 6), edit(2, 4)}
	good, bad, worse := person(7, 8, 0, 0), person(29, 999, 0, 1), person(0, 0, 0, 2)
	for _, c := range []struct {
		l       []impl.Edit
		weights []int
		data    []impl.Record
		want    []impl.Record
		costs   []int
		ok      bool
	}{
		{l, []int{1, 5}, nil, nil, nil, true},
		{l, []int{1, 5}, []impl.Record{}, nil, nil, true},
		{l, []int{1, 5}, []impl.Record{good}, []impl.Record{good}, []int{0}, true},
		{l, []int{1, 5}, []impl.Record{good, good}, []impl.Record{good, good}, []int{0, 0}, true},
		{nil, []int{1, 5}, []impl.Record{good, bad, worse}, []impl.Record{good, bad, worse}, []int{0, 0, 0}, true},
		{l, []int{1, 5}, []impl.Record{bad}, []impl.Record{person(29, 999, 1, 1)}, []int{1}, true},
		{l, []int{6, 5}, []impl.Record{bad}, []impl.Record{person(29, 999, 0, 0)}, []int{5}, true},
		{l, []int{1, 5}, []impl.Record{bad, good, bad, bad}, []impl.Record{person(29, 999, 1, 1), good, person(29, 999, 1, 1), person(29, 999, 1, 1)}, []int{1, 0, 1, 1}, true},
		{l, []int{1, 5}, []impl.Record{worse, good}, []impl.Record{person(0, 0, 0, 0), good}, []int{5, 0}, true},
		{l, []int{100, 100}, []impl.Record{worse, bad, worse}, []impl.Record{person(0, 0, 0, 0), person(29, 999, 1, 1), person(0, 0, 0, 0)}, []int{100, 100, 100}, true},
		{[]impl.Edit{edit(1, 7), edit(3, 6)}, []int{100, 99}, []impl.Record{bad, worse, good}, []impl.Record{person(29, 999, 1, 0), person(0, 0, 1, 0), person(7, 8, 1, 0)}, []int{199, 199, 100}, true},
		{[]impl.Edit{edit(3, 7)}, []int{1, 5}, []impl.Record{good}, nil, nil, false},
		{[]impl.Edit{edit(1, 7), edit(2, 7)}, []int{1, 5}, []impl.Record{good, bad, worse}, nil, nil, false},
		{[]impl.Edit{edit(3, 7)}, []int{1, 5}, nil, nil, nil, true},
		{l, []int{1, 5}, slices.Repeat([]impl.Record{bad}, 40), slices.Repeat([]impl.Record{person(29, 999, 1, 1)}, 40), slices.Repeat([]int{1}, 40), true},
	} {
		got, costs, ok := impl.MendData(s, c.l, c.weights, c.data)
		expectMendedData(t, fmt.Sprint("MendData ", c), got, costs, ok, c.want, c.costs, c.ok)
	}
}

// TestDonorsOfAllFewEdits goes through all lists of up to two edits.
func TestDonorsOfAllFewEdits(t *testing.T) {
	r := rand.New(rand.NewSource(701))
	for _, s := range [][]impl.Variable{schemaOf("b2"), schemaOf("c3"), schemaOf("b2", "a2"), schemaOf("sex2", "age3")} {
		b, lists := newEditTable(s), listsOfValues(s)
		for n := range 3 {
			for _, places := range allNumbers(n, 0, len(b.edits)-1) {
				var l []impl.Edit
				for _, i := range places {
					l = append(l, b.edits[i])
				}
				checkDonors(t, newRepair(b, l, randomWeights(r, s)), randomData(r, s, r.Intn(5)), lists)
			}
		}
	}
}

func TestDonorsInRandomData(t *testing.T) {
	r := rand.New(rand.NewSource(702))
	for _, s := range fewCombinations() {
		b := newEditTable(s)
		for _, n := range []int{0, 1, 2, 3, 5, 10, 25, 39, 40} {
			for _, l := range [][]impl.Edit{randomEdits(r, s, r.Intn(12)), denseEdits(r, s, r.Intn(6)), editsBut(s, randomValues(r, s))} {
				p := newRepair(b, l, randomWeights(r, s))
				checkDonors(t, p, randomData(r, s, n), [][]int{randomValues(r, s), farRecord(s).Values})
			}
		}
	}
}

// TestMendedDataFailNothing says with the functions alone what mended data are.
func TestMendedDataFailNothing(t *testing.T) {
	r := rand.New(rand.NewSource(703))
	for _, s := range fewCombinations() {
		for range 20 {
			l, data, weights := denseEdits(r, s, r.Intn(5)), randomData(r, s, r.Intn(41)), randomWeights(r, s)
			mended, costs, ok := impl.MendData(s, l, weights, data)
			if !ok {
				continue
			}
			failing, ok := impl.FailingRecords(s, l, mended)
			expectInts(t, fmt.Sprint("FailingRecords ", s, l, mended), failing, ok, nil, true)
			failing, _ = impl.FailingRecords(s, l, data)
			for i, r := range data {
				cost, ok := impl.ChangeCost(s, weights, r.Values, mended[i].Values)
				expectInt(t, fmt.Sprint("ChangeCost ", s, weights, r, mended[i]), cost, ok, costs[i], true)
				if r.Area != mended[i].Area || r.House != mended[i].House || (cost > 0) != slices.Contains(failing, i) {
					t.Error("MendData", s, l, r, mended[i], cost)
				}
			}
			again, none, ok := impl.MendData(s, l, weights, mended)
			expectMendedData(t, fmt.Sprint("MendData again ", s, l), again, none, ok, mended, make([]int, len(data)), true)
		}
	}
}

// TestDonorsRefuseData gives wrong data and donors to each function.
func TestDonorsRefuseData(t *testing.T) {
	for _, s := range fewCombinations() {
		zero := make([]int, len(s))
		for _, l := range [][]impl.Edit{nil, {editOfAll(s)}, {editOfValues(zero)}} {
			for _, data := range wrongData(s) {
				failing, ok := impl.FailingRecords(s, l, data)
				expectInts(t, fmt.Sprintf("FailingRecords %v %.100s", s, fmt.Sprint(data)), failing, ok, nil, false)
				i, ok := impl.NearestDonor(s, l, ones(s), data, zero)
				expectInt(t, fmt.Sprintf("NearestDonor %v %.100s", s, fmt.Sprint(data)), i, ok, 0, false)
				mended, costs, ok := impl.MendData(s, l, ones(s), data)
				expectMendedData(t, fmt.Sprintf("MendData %v %.100s", s, fmt.Sprint(data)), mended, costs, ok, nil, nil, false)
			}
			for _, bad := range wrongValues(s) {
				call := fmt.Sprintf("%v %v %.100s", s, l, fmt.Sprint(bad))
				for _, pair := range [][][]int{{bad, zero}, {zero, bad}, {bad, bad}} {
					got, used, ok := impl.DonorMend(s, l, ones(s), pair[0], pair[1])
					expectDonorMend(t, "DonorMend "+call, got, used, ok, nil, false, false)
				}
				i, ok := impl.NearestDonor(s, l, ones(s), []impl.Record{farRecord(s)}, bad)
				expectInt(t, "NearestDonor "+call, i, ok, 0, false)
			}
		}
	}
}

func TestDonorsRefuseWeights(t *testing.T) {
	for _, s := range fewCombinations() {
		zero := make([]int, len(s))
		for _, weights := range wrongWeights(s) {
			for _, l := range [][]impl.Edit{nil, {editOfAll(s)}, {editOfValues(zero)}} {
				for _, data := range [][]impl.Record{nil, {farRecord(s)}, {person(0, 0, zero...), farRecord(s)}} {
					refusesWeighted(t, s, l, weights, data, zero)
					refusesWeighted(t, s, l, weights, data, farRecord(s).Values)
				}
			}
		}
	}
}
