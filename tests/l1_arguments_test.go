package tests

import (
	"fmt"
	"math"
	"math/big"
	"slices"
	"testing"

	"loop.example/g00908/impl"
)

// extremeInts are numbers around the limits of chapter 1 and of int.
func extremeInts() []int {
	l := []int{0}
	for _, n := range []int{1, 2, 59, 60, 61, limit - 1, limit, limit + 1, 2 * limit, part - 1, part, part + 1, 2 * part, math.MaxInt - 1, math.MaxInt} {
		l = append(l, n, -n)
	}
	return append(l, math.MinInt)
}

func TestChapter1RefusesInvalidFractions(t *testing.T) {
	good := impl.Frac{Num: 1, Den: 2}
	others := append(append(invalidFracs(), good), validFracs()...)
	for _, bad := range invalidFracs() {
		for _, c := range combinations() {
			for _, other := range others {
				got, ok := c.result(bad, other)
				expectFrac(t, fmt.Sprint(c.name, bad, other), got, ok, impl.Frac{}, false)
				got, ok = c.result(other, bad)
				expectFrac(t, fmt.Sprint(c.name, other, bad), got, ok, impl.Frac{}, false)
			}
		}
		for _, other := range others {
			if n, ok := impl.CompareFrac(bad, other); n != 0 || ok {
				t.Error("CompareFrac", bad, other, n, ok)
			}
			if n, ok := impl.CompareFrac(other, bad); n != 0 || ok {
				t.Error("CompareFrac", other, bad, n, ok)
			}
		}
		for _, k := range extremeInts() {
			got, ok := impl.PowFrac(bad, k)
			expectFrac(t, fmt.Sprint("PowFrac ", bad, k), got, ok, impl.Frac{}, false)
		}
		if n, ok := impl.FloorFrac(bad); n != 0 || ok {
			t.Error("FloorFrac", bad, n, ok)
		}
		if n, ok := impl.RoundFrac(bad); n != 0 || ok {
			t.Error("RoundFrac", bad, n, ok)
		}
		if s, ok := impl.FracText(bad); s != "" || ok {
			t.Error("FracText", bad, s, ok)
		}
		got, ok := impl.SumFracs([]impl.Frac{good, bad, good})
		expectFrac(t, fmt.Sprint("SumFracs with ", bad), got, ok, impl.Frac{}, false)
	}
}

func isPart(n int) bool {
	return -part <= n && n <= part
}

// TestChapter1AcceptsAllNumbers fails also by the panic of a call.
func TestChapter1AcceptsAllNumbers(t *testing.T) {
	for _, n := range extremeInts() {
		for _, d := range extremeInts() {
			var want impl.Frac
			wantOK := false
			if isPart(n) && isPart(d) && d != 0 {
				want, wantOK = fracOf(big.NewRat(int64(n), int64(d)))
			}
			got, ok := impl.MakeFrac(n, d)
			expectFrac(t, fmt.Sprint("MakeFrac ", n, d), got, ok, want, wantOK)
			pair := impl.Frac{Num: n, Den: d}
			if impl.IsFrac(pair) != isValid(pair) {
				t.Error("IsFrac", pair)
			}
			acceptsNumbers(t, pair)
		}
	}
}

// acceptsNumbers calls the functions with one fraction, valid or not.
func acceptsNumbers(t *testing.T, f impl.Frac) {
	t.Helper()
	_, floorOK := impl.FloorFrac(f)
	_, roundOK := impl.RoundFrac(f)
	_, textOK := impl.FracText(f)
	_, powerOK := impl.PowFrac(f, 1)
	_, sumOK := impl.SumFracs([]impl.Frac{f})
	if valid := isValid(f); floorOK != valid || roundOK != valid || textOK != valid || powerOK != valid || sumOK != valid {
		t.Error("accepted or refused", f, floorOK, roundOK, textOK, powerOK, sumOK)
	}
}

func TestSumFracsLeavesItsArgument(t *testing.T) {
	last := impl.Frac{Num: 999, Den: 7}
	lists := [][]impl.Frac{validFracs(), invalidFracs(), {{Num: 1, Den: 2}, {Num: 1, Den: 2}}, randomFracs(9, 101)}
	for _, l := range lists {
		l = append(l, last)
		before := slices.Clone(l)
		impl.SumFracs(l[:len(l)-1])
		if !slices.Equal(l, before) {
			t.Error("changed", before, l)
		}
	}
}

func TestSumFracsDoesNotReadSpareCapacity(t *testing.T) {
	l := []impl.Frac{{Num: 1, Den: 2}, {Num: 1, Den: 3}, {Num: 5, Den: 5}, {Num: 7, Den: 1}}
	got, ok := impl.SumFracs(l[:2])
	expectFrac(t, "SumFracs of a beginning", got, ok, impl.Frac{Num: 5, Den: 6}, true)
	got, ok = impl.SumFracs(l[:0])
	expectFrac(t, "SumFracs of an empty beginning", got, ok, impl.Frac{Num: 0, Den: 1}, true)
}

func TestChapter1KeepsNoState(t *testing.T) {
	a, b := impl.Frac{Num: 5, Den: 6}, impl.Frac{Num: -7, Den: 10}
	for range 3 {
		got, ok := impl.AddFrac(a, b)
		expectFrac(t, "AddFrac again", got, ok, impl.Frac{Num: 2, Den: 15}, true)
		got, ok = impl.SumFracs([]impl.Frac{a, b, a})
		expectFrac(t, "SumFracs again", got, ok, impl.Frac{Num: 29, Den: 30}, true)
		impl.AddFrac(impl.Frac{}, b)
		impl.SumFracs(invalidFracs())
		impl.ParseFrac("2/4")
	}
}
