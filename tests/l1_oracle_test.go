package tests

import (
	"math"
	"math/big"
	"math/rand"
	"regexp"
	"testing"

	"loop.example/g00908/impl"
)

// limit is that of a valid fraction, part that of an argument of MakeFrac.
const (
	limit = 1000000000
	part  = 1000000000000000000
)

// isValid says by arithmetic without bounds what IsFrac must say.
func isValid(f impl.Frac) bool {
	if f.Den < 1 || f.Den > limit || f.Num < -limit || f.Num > limit {
		return false
	}
	r := big.NewRat(int64(f.Num), int64(f.Den))
	return r.Num().Int64() == int64(f.Num) && r.Denom().Int64() == int64(f.Den)
}

func ratOf(f impl.Frac) *big.Rat {
	return big.NewRat(int64(f.Num), int64(f.Den))
}

// fracOf returns a number as a fraction, if this is valid.
func fracOf(r *big.Rat) (impl.Frac, bool) {
	bound := big.NewInt(limit)
	if r.Num().CmpAbs(bound) > 0 || r.Denom().Cmp(bound) > 0 {
		return impl.Frac{}, false
	}
	return impl.Frac{Num: int(r.Num().Int64()), Den: int(r.Denom().Int64())}, true
}

var textForm = regexp.MustCompile(`^(0|-?[1-9][0-9]*)(/[1-9][0-9]*)?$`)

// fracOfText says what ParseFrac must return.
func fracOfText(s string) (impl.Frac, bool) {
	if !textForm.MatchString(s) {
		return impl.Frac{}, false
	}
	r, ok := new(big.Rat).SetString(s)
	if !ok {
		return impl.Frac{}, false
	}
	shortest := r.RatString()
	if shortest != s {
		return impl.Frac{}, false
	}
	return fracOf(r)
}

// validFracs are fractions at and near the limits and between them.
func validFracs() []impl.Frac {
	l := []impl.Frac{
		{Num: 0, Den: 1}, {Num: 1, Den: 1}, {Num: 2, Den: 1}, {Num: 7, Den: 1}, {Num: 10, Den: 1},
		{Num: 1, Den: 2}, {Num: 3, Den: 2}, {Num: 5, Den: 2}, {Num: 7, Den: 2}, {Num: 2, Den: 3},
		{Num: 1, Den: 6}, {Num: 35, Den: 11}, {Num: 11, Den: 35}, {Num: 121, Den: 169}, {Num: 49, Den: 128},
		{Num: limit, Den: 1}, {Num: limit - 1, Den: 1}, {Num: 1, Den: limit}, {Num: 1, Den: limit - 1},
		{Num: limit, Den: limit - 1}, {Num: limit - 1, Den: limit}, {Num: limit - 1, Den: limit - 2},
		{Num: limit, Den: 3}, {Num: 3, Den: limit}, {Num: limit - 1, Den: 2}, {Num: limit / 2, Den: limit/2 - 1},
		{Num: 999999937, Den: 999999929}, {Num: 31607, Den: 31627}, {Num: 999999937, Den: 2}, {Num: 1, Den: 999999937},
		{Num: 31607 * 31607, Den: 1}, {Num: 1, Den: 31607 * 31607}, {Num: 536870912, Den: 387420489},
	}
	for _, f := range l[1:] {
		l = append(l, impl.Frac{Num: -f.Num, Den: f.Den})
	}
	return l
}

// invalidFracs are pairs of numbers that are not valid fractions.
func invalidFracs() []impl.Frac {
	return []impl.Frac{
		{}, {Num: 0, Den: 2}, {Num: 0, Den: -1}, {Num: 0, Den: limit}, {Num: 1, Den: 0}, {Num: -1, Den: 0},
		{Num: 1, Den: -1}, {Num: 1, Den: -2}, {Num: -1, Den: -2}, {Num: 2, Den: 4}, {Num: -2, Den: 4}, {Num: 6, Den: 3},
		{Num: 11, Den: 22}, {Num: 121, Den: 11}, {Num: -13, Den: 169}, {Num: limit, Den: limit}, {Num: limit, Den: 2},
		{Num: limit + 1, Den: 1}, {Num: -limit - 1, Den: 1}, {Num: 1, Den: limit + 1}, {Num: -1, Den: limit + 1},
		{Num: 1, Den: -limit}, {Num: limit + 1, Den: limit + 2},
		{Num: math.MaxInt, Den: 1}, {Num: math.MinInt, Den: 1}, {Num: 1, Den: math.MaxInt}, {Num: 1, Den: math.MinInt},
		{Num: 0, Den: math.MaxInt}, {Num: 0, Den: math.MinInt}, {Num: math.MaxInt, Den: math.MaxInt},
		{Num: math.MinInt, Den: math.MinInt}, {Num: math.MinInt, Den: -1}, {Num: math.MaxInt, Den: math.MinInt},
		{Num: math.MinInt, Den: 0}, {Num: math.MinInt, Den: math.MaxInt},
	}
}

// randomFrac returns a valid fraction whose parts are often small.
func randomFrac(r *rand.Rand) impl.Frac {
	bounds := []int64{3, 30, 1000, 40000, limit}
	bound := bounds[r.Intn(len(bounds))]
	f, _ := fracOf(big.NewRat(r.Int63n(2*bound+1)-bound, r.Int63n(bound)+1))
	return f
}

func randomFracs(seed int64, n int) []impl.Frac {
	r := rand.New(rand.NewSource(seed))
	l := make([]impl.Frac, n)
	for i := range l {
		l[i] = randomFrac(r)
	}
	return l
}

func expectFrac(t *testing.T, call string, got impl.Frac, ok bool, want impl.Frac, wantOK bool) {
	t.Helper()
	if got != want || ok != wantOK {
		t.Errorf("%s is %v %v, not %v %v", call, got, ok, want, wantOK)
	}
}

func TestLimits(t *testing.T) {
	if impl.MaxNumber != limit || impl.MaxSummands != 100 {
		t.Error("limits", impl.MaxNumber, impl.MaxSummands)
	}
}

func TestOracleKnowsValidFractions(t *testing.T) {
	for _, f := range validFracs() {
		if !isValid(f) {
			t.Error("should be valid", f)
		}
	}
	for _, f := range invalidFracs() {
		if isValid(f) {
			t.Error("should not be valid", f)
		}
	}
}
