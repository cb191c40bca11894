package tests

import (
	"fmt"
	"math"
	"math/big"
	"math/rand"
	"strings"
	"testing"

	"loop.example/g00908/impl"
)

// combination is a function of two fractions and what it must return.
type combination struct {
	name   string
	result func(a, b impl.Frac) (impl.Frac, bool)
	exact  func(a, b *big.Rat) *big.Rat
}

func combinations() []combination {
	return []combination{
		{"AddFrac", impl.AddFrac, func(a, b *big.Rat) *big.Rat { return new(big.Rat).Add(a, b) }},
		{"SubFrac", impl.SubFrac, func(a, b *big.Rat) *big.Rat { return new(big.Rat).Sub(a, b) }},
		{"MulFrac", impl.MulFrac, func(a, b *big.Rat) *big.Rat { return new(big.Rat).Mul(a, b) }},
		{"DivFrac", impl.DivFrac, func(a, b *big.Rat) *big.Rat {
			if b.Sign() == 0 {
				return nil
			}
			return new(big.Rat).Quo(a, b)
		}},
	}
}

func checkCombination(t *testing.T, c combination, a, b impl.Frac) {
	t.Helper()
	var want impl.Frac
	wantOK := false
	if exact := c.exact(ratOf(a), ratOf(b)); exact != nil {
		want, wantOK = fracOf(exact)
	}
	got, ok := c.result(a, b)
	expectFrac(t, fmt.Sprint(c.name, a, b), got, ok, want, wantOK)
}

func TestIsFrac(t *testing.T) {
	for _, f := range validFracs() {
		if !impl.IsFrac(f) {
			t.Error("refused", f)
		}
	}
	for _, f := range invalidFracs() {
		if impl.IsFrac(f) {
			t.Error("accepted", f)
		}
	}
	for den := -30; den <= 30; den++ {
		for num := -30; num <= 30; num++ {
			f := impl.Frac{Num: num, Den: den}
			if impl.IsFrac(f) != isValid(f) {
				t.Error("wrong about", f)
			}
		}
	}
}

func TestMakeFrac(t *testing.T) {
	cases := []struct {
		n, d int
		want impl.Frac
		ok   bool
	}{
		{6, -4, impl.Frac{Num: -3, Den: 2}, true},
		{-6, -4, impl.Frac{Num: 3, Den: 2}, true},
		{-6, 4, impl.Frac{Num: -3, Den: 2}, true},
		{0, 5, impl.Frac{Num: 0, Den: 1}, true},
		{0, -5, impl.Frac{Num: 0, Den: 1}, true},
		{0, part, impl.Frac{Num: 0, Den: 1}, true},
		{0, -part, impl.Frac{Num: 0, Den: 1}, true},
		{part, part, impl.Frac{Num: 1, Den: 1}, true},
		{part, -part, impl.Frac{Num: -1, Den: 1}, true},
		{-part, part, impl.Frac{Num: -1, Den: 1}, true},
		{-part, -part, impl.Frac{Num: 1, Den: 1}, true},
		{part, limit, impl.Frac{Num: limit, Den: 1}, true},
		{limit, part, impl.Frac{Num: 1, Den: limit}, true},
		{-limit, -part, impl.Frac{Num: 1, Den: limit}, true},
		{2 * limit, 2, impl.Frac{Num: limit, Den: 1}, true},
		{2, 2 * limit, impl.Frac{Num: 1, Den: limit}, true},
		{11 * limit, -11, impl.Frac{Num: -limit, Den: 1}, true},
		{limit, 1, impl.Frac{Num: limit, Den: 1}, true},
		{limit + 1, 1, impl.Frac{}, false},
		{-limit - 1, 1, impl.Frac{}, false},
		{1, limit + 1, impl.Frac{}, false},
		{1, -limit - 1, impl.Frac{}, false},
		{2 * limit, 1, impl.Frac{}, false},
		{part, limit - 1, impl.Frac{}, false},
		{part, 1, impl.Frac{}, false},
		{part + 1, part + 1, impl.Frac{}, false},
		{-part - 1, part, impl.Frac{}, false},
		{part + 1, 1, impl.Frac{}, false},
		{0, part + 1, impl.Frac{}, false},
		{0, -part - 1, impl.Frac{}, false},
		{0, 0, impl.Frac{}, false},
		{1, 0, impl.Frac{}, false},
		{math.MaxInt, math.MaxInt, impl.Frac{}, false},
		{math.MinInt, math.MinInt, impl.Frac{}, false},
		{math.MinInt, -1, impl.Frac{}, false},
		{0, math.MinInt, impl.Frac{}, false},
		{math.MinInt, 0, impl.Frac{}, false},
	}
	for _, c := range cases {
		got, ok := impl.MakeFrac(c.n, c.d)
		expectFrac(t, fmt.Sprint("MakeFrac ", c.n, c.d), got, ok, c.want, c.ok)
	}
}

func TestMakeFracCancels(t *testing.T) {
	r := rand.New(rand.NewSource(1))
	for range 5000 {
		f := randomFrac(r)
		most := int64(part / max(f.Num, -f.Num, f.Den))
		factor := int(r.Int63n(most)) + 1
		if r.Intn(3) == 0 {
			factor = int(r.Int63n(min(most, 1000))) + 1
		}
		got, ok := impl.MakeFrac(f.Num*factor, f.Den*factor)
		expectFrac(t, fmt.Sprint("MakeFrac of ", f, " times ", factor), got, ok, f, true)
		got, ok = impl.MakeFrac(-f.Num*factor, -f.Den*factor)
		expectFrac(t, fmt.Sprint("MakeFrac of ", f, " times ", -factor), got, ok, f, true)
	}
	for n := -60; n <= 60; n++ {
		for d := 1; d <= 60; d++ {
			want, wantOK := fracOf(big.NewRat(int64(n), int64(d)))
			got, ok := impl.MakeFrac(n, d)
			expectFrac(t, fmt.Sprint("MakeFrac ", n, d), got, ok, want, wantOK)
			got, ok = impl.MakeFrac(-n, -d)
			expectFrac(t, fmt.Sprint("MakeFrac ", -n, -d), got, ok, want, wantOK)
		}
	}
}

func TestArithmeticIsExact(t *testing.T) {
	l := append(validFracs(), randomFracs(2, 100)...)
	for _, c := range combinations() {
		for _, a := range l {
			for _, b := range l {
				checkCombination(t, c, a, b)
			}
		}
	}
}

func TestArithmeticExamples(t *testing.T) {
	half, third := impl.Frac{Num: 1, Den: 2}, impl.Frac{Num: 1, Den: 3}
	zero, most := impl.Frac{Num: 0, Den: 1}, impl.Frac{Num: limit, Den: 1}
	least, one := impl.Frac{Num: 1, Den: limit}, impl.Frac{Num: 1, Den: 1}
	nearOne := impl.Frac{Num: limit - 1, Den: limit - 2}
	cases := []struct {
		name string
		f    func(a, b impl.Frac) (impl.Frac, bool)
		a, b impl.Frac
		want impl.Frac
		ok   bool
	}{
		{"a sum", impl.AddFrac, half, third, impl.Frac{Num: 5, Den: 6}, true},
		{"a sum that cancels", impl.AddFrac, half, half, one, true},
		// The sum of the cross products is beyond 10^18, and the sum is valid.
		{"a sum of great products", impl.AddFrac, nearOne, nearOne, impl.Frac{Num: limit - 1, Den: limit/2 - 1}, true},
		{"a sum at the limit", impl.AddFrac, impl.Frac{Num: limit - 1, Den: 1}, one, most, true},
		{"a sum past the limit", impl.AddFrac, most, one, impl.Frac{}, false},
		{"a denominator past the limit", impl.AddFrac, least, impl.Frac{Num: 1, Den: 3}, impl.Frac{}, false},
		{"a difference", impl.SubFrac, third, half, impl.Frac{Num: -1, Den: 6}, true},
		{"a difference 0", impl.SubFrac, least, least, zero, true},
		{"a difference at the limit", impl.SubFrac, impl.Frac{Num: 1 - limit, Den: 1}, one, impl.Frac{Num: -limit, Den: 1}, true},
		{"a difference past the limit", impl.SubFrac, impl.Frac{Num: -limit, Den: 1}, one, impl.Frac{}, false},
		{"a product", impl.MulFrac, half, impl.Frac{Num: -2, Den: 3}, impl.Frac{Num: -1, Den: 3}, true},
		{"a product 0", impl.MulFrac, zero, impl.Frac{Num: -7, Den: limit}, zero, true},
		{"a product 1", impl.MulFrac, most, least, one, true},
		{"a product past the limit", impl.MulFrac, most, impl.Frac{Num: 2, Den: 1}, impl.Frac{}, false},
		{"a product too small", impl.MulFrac, least, half, impl.Frac{}, false},
		{"a quotient", impl.DivFrac, half, impl.Frac{Num: 2, Den: 3}, impl.Frac{Num: 3, Den: 4}, true},
		{"a quotient by a negative number", impl.DivFrac, half, impl.Frac{Num: -2, Den: 3}, impl.Frac{Num: -3, Den: 4}, true},
		{"a quotient of negative numbers", impl.DivFrac, impl.Frac{Num: -1, Den: 2}, impl.Frac{Num: -2, Den: 3}, impl.Frac{Num: 3, Den: 4}, true},
		{"0 by a negative number", impl.DivFrac, zero, impl.Frac{Num: -7, Den: 3}, zero, true},
		{"a quotient of great parts", impl.DivFrac, impl.Frac{Num: -limit, Den: limit - 1}, impl.Frac{Num: -limit, Den: limit - 1}, one, true},
		{"a quotient at the limit", impl.DivFrac, one, impl.Frac{Num: -limit, Den: 1}, impl.Frac{Num: -1, Den: limit}, true},
		{"a quotient past the limit", impl.DivFrac, half, most, impl.Frac{}, false},
		{"a divisor 0", impl.DivFrac, one, zero, impl.Frac{}, false},
		{"0 by 0", impl.DivFrac, zero, zero, impl.Frac{}, false},
	}
	for _, c := range cases {
		got, ok := c.f(c.a, c.b)
		expectFrac(t, c.name, got, ok, c.want, c.ok)
	}
}

func TestSumsAndProductsAreUndone(t *testing.T) {
	l := append(validFracs(), randomFracs(3, 150)...)
	for _, a := range l {
		for _, b := range l {
			if sum, ok := impl.AddFrac(a, b); ok {
				back, ok := impl.SubFrac(sum, b)
				expectFrac(t, fmt.Sprint("a + b - b for ", a, b), back, ok, a, true)
			}
			if difference, ok := impl.SubFrac(a, b); ok {
				back, ok := impl.AddFrac(difference, b)
				expectFrac(t, fmt.Sprint("a - b + b for ", a, b), back, ok, a, true)
			}
			if product, ok := impl.MulFrac(a, b); ok && b.Num != 0 {
				back, ok := impl.DivFrac(product, b)
				expectFrac(t, fmt.Sprint("a b / b for ", a, b), back, ok, a, true)
			}
			if quotient, ok := impl.DivFrac(a, b); ok {
				back, ok := impl.MulFrac(quotient, b)
				expectFrac(t, fmt.Sprint("a / b b for ", a, b), back, ok, a, true)
			}
		}
	}
}

func TestPowFrac(t *testing.T) {
	l := append(validFracs(), randomFracs(4, 100)...)
	for _, f := range l {
		exact := big.NewRat(1, 1)
		for k := 0; k <= 60; k++ {
			want, wantOK := fracOf(exact)
			got, ok := impl.PowFrac(f, k)
			expectFrac(t, fmt.Sprint("PowFrac ", f, k), got, ok, want, wantOK)
			exact.Mul(exact, ratOf(f))
		}
		for _, k := range []int{-1, -2, 61, 62, 120, math.MinInt, math.MaxInt} {
			got, ok := impl.PowFrac(f, k)
			expectFrac(t, fmt.Sprint("PowFrac ", f, k), got, ok, impl.Frac{}, false)
		}
	}
}

func TestPowFracExamples(t *testing.T) {
	cases := []struct {
		f    impl.Frac
		k    int
		want impl.Frac
		ok   bool
	}{
		{impl.Frac{Num: 1, Den: 2}, 3, impl.Frac{Num: 1, Den: 8}, true},
		{impl.Frac{Num: -2, Den: 3}, 3, impl.Frac{Num: -8, Den: 27}, true},
		{impl.Frac{Num: 0, Den: 1}, 0, impl.Frac{Num: 1, Den: 1}, true},
		{impl.Frac{Num: 0, Den: 1}, 60, impl.Frac{Num: 0, Den: 1}, true},
		{impl.Frac{Num: -1, Den: 1}, 60, impl.Frac{Num: 1, Den: 1}, true},
		{impl.Frac{Num: -1, Den: 1}, 59, impl.Frac{Num: -1, Den: 1}, true},
		{impl.Frac{Num: limit, Den: limit - 1}, 0, impl.Frac{Num: 1, Den: 1}, true},
		{impl.Frac{Num: limit, Den: limit - 1}, 1, impl.Frac{Num: limit, Den: limit - 1}, true},
		{impl.Frac{Num: limit, Den: limit - 1}, 2, impl.Frac{}, false},
		{impl.Frac{Num: 10, Den: 1}, 9, impl.Frac{Num: limit, Den: 1}, true},
		{impl.Frac{Num: 10, Den: 1}, 10, impl.Frac{}, false},
		{impl.Frac{Num: 1, Den: 10}, 9, impl.Frac{Num: 1, Den: limit}, true},
		{impl.Frac{Num: 1, Den: 10}, 10, impl.Frac{}, false},
		{impl.Frac{Num: 2, Den: 1}, 29, impl.Frac{Num: 536870912, Den: 1}, true},
		{impl.Frac{Num: 2, Den: 1}, 30, impl.Frac{}, false},
		{impl.Frac{Num: 2, Den: 1}, 60, impl.Frac{}, false},
	}
	for _, c := range cases {
		got, ok := impl.PowFrac(c.f, c.k)
		expectFrac(t, fmt.Sprint("PowFrac ", c.f, c.k), got, ok, c.want, c.ok)
	}
}

func TestCompareFrac(t *testing.T) {
	l := append(validFracs(), randomFracs(5, 100)...)
	for _, a := range l {
		for _, b := range l {
			want := ratOf(a).Cmp(ratOf(b))
			if got, ok := impl.CompareFrac(a, b); got != want || !ok {
				t.Error("CompareFrac", a, b, got, ok)
			}
		}
	}
}

func TestFloorAndRoundExamples(t *testing.T) {
	cases := []struct {
		f            impl.Frac
		floor, round int
	}{
		{impl.Frac{Num: 0, Den: 1}, 0, 0},
		{impl.Frac{Num: 3, Den: 1}, 3, 3},
		{impl.Frac{Num: -3, Den: 1}, -3, -3},
		{impl.Frac{Num: 1, Den: 2}, 0, 0},
		{impl.Frac{Num: -1, Den: 2}, -1, 0},
		{impl.Frac{Num: 3, Den: 2}, 1, 2},
		{impl.Frac{Num: -3, Den: 2}, -2, -2},
		{impl.Frac{Num: 5, Den: 2}, 2, 2},
		{impl.Frac{Num: -5, Den: 2}, -3, -2},
		{impl.Frac{Num: 7, Den: 2}, 3, 4},
		{impl.Frac{Num: -7, Den: 2}, -4, -4},
		{impl.Frac{Num: 1, Den: 3}, 0, 0},
		{impl.Frac{Num: -1, Den: 3}, -1, 0},
		{impl.Frac{Num: 2, Den: 3}, 0, 1},
		{impl.Frac{Num: -2, Den: 3}, -1, -1},
		{impl.Frac{Num: 4, Den: 3}, 1, 1},
		{impl.Frac{Num: -5, Den: 3}, -2, -2},
		{impl.Frac{Num: limit, Den: 1}, limit, limit},
		{impl.Frac{Num: -limit, Den: 1}, -limit, -limit},
		{impl.Frac{Num: 1, Den: limit}, 0, 0},
		{impl.Frac{Num: -1, Den: limit}, -1, 0},
		{impl.Frac{Num: limit - 1, Den: limit}, 0, 1},
		{impl.Frac{Num: 1 - limit, Den: limit}, -1, -1},
		{impl.Frac{Num: limit - 1, Den: 2}, limit/2 - 1, limit / 2},
		{impl.Frac{Num: 1 - limit, Den: 2}, -limit / 2, -limit / 2},
		{impl.Frac{Num: limit - 3, Den: 2}, limit/2 - 2, limit/2 - 2},
		{impl.Frac{Num: limit/2 - 1, Den: limit - 1}, 0, 0},
		{impl.Frac{Num: limit / 2, Den: limit - 1}, 0, 1},
		{impl.Frac{Num: -limit / 2, Den: limit - 1}, -1, -1},
	}
	for _, c := range cases {
		if n, ok := impl.FloorFrac(c.f); n != c.floor || !ok {
			t.Error("FloorFrac", c.f, n, ok)
		}
		if n, ok := impl.RoundFrac(c.f); n != c.round || !ok {
			t.Error("RoundFrac", c.f, n, ok)
		}
	}
}

func TestNearestIntegersAreNear(t *testing.T) {
	l := append(validFracs(), randomFracs(6, 2000)...)
	for n := -99; n <= 99; n += 2 {
		l = append(l, impl.Frac{Num: n, Den: 2})
	}
	for _, f := range l {
		floor, ok := impl.FloorFrac(f)
		above := new(big.Rat).Sub(ratOf(f), big.NewRat(int64(floor), 1))
		if !ok || above.Sign() < 0 || above.Cmp(big.NewRat(1, 1)) >= 0 {
			t.Error("FloorFrac", f, floor, ok)
		}
		round, ok := impl.RoundFrac(f)
		off := new(big.Rat).Sub(ratOf(f), big.NewRat(int64(round), 1))
		far := off.Abs(off).Cmp(big.NewRat(1, 2))
		if !ok || far > 0 || far == 0 && round%2 != 0 {
			t.Error("RoundFrac", f, round, ok)
		}
	}
}

// exactSum returns the sum of a list if all partial sums are valid.
func exactSum(l []impl.Frac) (impl.Frac, bool) {
	sum := new(big.Rat)
	for _, f := range l {
		sum.Add(sum, ratOf(f))
		if _, ok := fracOf(sum); !ok {
			return impl.Frac{}, false
		}
	}
	return fracOf(sum)
}

func TestSumFracs(t *testing.T) {
	r := rand.New(rand.NewSource(7))
	valid := 0
	for range 3000 {
		l := make([]impl.Frac, r.Intn(12))
		for i := range l {
			l[i] = impl.Frac{Num: r.Intn(2*limit+1) - limit, Den: 1}
			if r.Intn(2) == 0 {
				l[i], _ = fracOf(big.NewRat(r.Int63n(41)-20, r.Int63n(20)+1))
			}
		}
		want, wantOK := exactSum(l)
		if wantOK {
			valid++
		}
		got, ok := impl.SumFracs(l)
		expectFrac(t, fmt.Sprint("SumFracs ", l), got, ok, want, wantOK)
	}
	if valid < 300 || valid > 2700 {
		t.Error("the lists test one case only", valid)
	}
}

func TestSumFracsExamples(t *testing.T) {
	one, minusOne, most := impl.Frac{Num: 1, Den: 1}, impl.Frac{Num: -1, Den: 1}, impl.Frac{Num: limit, Den: 1}
	half := impl.Frac{Num: 1, Den: 2}
	p, q := impl.Frac{Num: 1, Den: 999999937}, impl.Frac{Num: 1, Den: 999999929}
	minusQ := impl.Frac{Num: -1, Den: 999999929}
	cases := []struct {
		name string
		l    []impl.Frac
		want impl.Frac
		ok   bool
	}{
		{"none", nil, impl.Frac{Num: 0, Den: 1}, true},
		{"an empty list", []impl.Frac{}, impl.Frac{Num: 0, Den: 1}, true},
		{"one summand", []impl.Frac{half}, half, true},
		{"three summands", []impl.Frac{half, half, {Num: 5, Den: 6}}, impl.Frac{Num: 11, Den: 6}, true},
		{"a sum 0", []impl.Frac{half, minusOne, half}, impl.Frac{Num: 0, Den: 1}, true},
		{"partial sums at the limit", []impl.Frac{most, minusOne, one}, most, true},
		{"a partial sum past the limit", []impl.Frac{most, one, minusOne}, impl.Frac{}, false},
		{"a last sum past the limit", []impl.Frac{most, minusOne, one, one}, impl.Frac{}, false},
		{"a denominator past the limit on the way", []impl.Frac{p, q, minusQ}, impl.Frac{}, false},
		{"the same in another order", []impl.Frac{q, minusQ, p}, p, true},
		{"a first summand that is not valid", []impl.Frac{{Num: 2, Den: 4}, one}, impl.Frac{}, false},
		{"a last summand that is not valid", []impl.Frac{one, half, {Num: 0, Den: 2}}, impl.Frac{}, false},
		{"one summand that is not valid", []impl.Frac{{}}, impl.Frac{}, false},
	}
	for _, c := range cases {
		got, ok := impl.SumFracs(c.l)
		expectFrac(t, c.name, got, ok, c.want, c.ok)
	}
}

func TestSumFracsCountsSummands(t *testing.T) {
	l := make([]impl.Frac, impl.MaxSummands)
	for i := range l {
		l[i] = impl.Frac{Num: 1, Den: 100}
	}
	got, ok := impl.SumFracs(l)
	expectFrac(t, "100 summands", got, ok, impl.Frac{Num: 1, Den: 1}, true)
	got, ok = impl.SumFracs(append(l, impl.Frac{Num: 0, Den: 1}))
	expectFrac(t, "101 summands", got, ok, impl.Frac{}, false)
	got, ok = impl.SumFracs(make([]impl.Frac, 101))
	expectFrac(t, "101 summands that are not valid", got, ok, impl.Frac{}, false)
}

func TestFracText(t *testing.T) {
	cases := []struct {
		f    impl.Frac
		want string
	}{
		{impl.Frac{Num: 0, Den: 1}, "0"},
		{impl.Frac{Num: 3, Den: 1}, "3"},
		{impl.Frac{Num: -3, Den: 1}, "-3"},
		{impl.Frac{Num: 1, Den: 2}, "1/2"},
		{impl.Frac{Num: -3, Den: 2}, "-3/2"},
		{impl.Frac{Num: 10, Den: 101}, "10/101"},
		{impl.Frac{Num: limit, Den: 1}, "1000000000"},
		{impl.Frac{Num: -limit, Den: limit - 1}, "-1000000000/999999999"},
		{impl.Frac{Num: 1, Den: limit}, "1/1000000000"},
	}
	for _, c := range cases {
		if s, ok := impl.FracText(c.f); s != c.want || !ok {
			t.Error("FracText", c.f, s, ok)
		}
	}
}

func TestTextsAreReadBack(t *testing.T) {
	for _, f := range append(validFracs(), randomFracs(8, 500)...) {
		s, ok := impl.FracText(f)
		if s != ratOf(f).RatString() || !ok {
			t.Error("FracText", f, s, ok)
		}
		back, ok := impl.ParseFrac(s)
		expectFrac(t, "ParseFrac "+s, back, ok, f, true)
	}
}

func TestParseFracRefuses(t *testing.T) {
	texts := []string{
		"", " ", "-", "/", "+", "+0", "+1", "-0", "--1", "00", "01", "-01", "007/2", "1/02", "0x1", "1_0", "1e3", "1.0",
		"2/4", "-2/4", "11/22", "0/1", "0/2", "0/0", "1/0", "1/1", "3/1", "-3/1", "6/3", "1000000000/1000000000",
		"1/-2", "1/+2", "-1/-2", "1//2", "1/2/3", "/2", "1/", "-/2", "1/-0", " 1/2", "1/2 ", "1 /2", "1/ 2", "1\n", "1/2\n",
		"1000000001", "-1000000001", "1/1000000001", "1000000001/2", "9223372036854775807", "-9223372036854775808",
		"9223372036854775808", "1/9223372036854775809", "18446744073709551617", "18446744073709551617/2", "1/18446744073709551618",
		"a", "1a", "1/2a", "a/2", "1\x00", "\x001", "1/2\x00", "\xff", "1\xff/2", "١", "１/２", "½", "-½",
		strings.Repeat("0", 1000) + "1", strings.Repeat("9", 10000), "1/" + strings.Repeat("9", 10000), strings.Repeat("/", 1000),
	}
	for _, s := range texts {
		got, ok := impl.ParseFrac(s)
		expectFrac(t, fmt.Sprintf("ParseFrac %.40q", s), got, ok, impl.Frac{}, false)
	}
}

func TestParseFracOfShortTexts(t *testing.T) {
	const letters = "-+/0123 "
	level := []string{""}
	for range 5 {
		var longer []string
		for _, s := range level {
			for _, c := range letters {
				longer = append(longer, s+string(c))
			}
		}
		for _, s := range longer {
			want, wantOK := fracOfText(s)
			got, ok := impl.ParseFrac(s)
			expectFrac(t, fmt.Sprintf("ParseFrac %q", s), got, ok, want, wantOK)
		}
		level = longer
	}
}

func TestParseFracOfChangedTexts(t *testing.T) {
	for _, f := range validFracs() {
		s, _ := impl.FracText(f)
		for i := range len(s) + 1 {
			for c := range 256 {
				texts := []string{s[:i] + string([]byte{byte(c)}) + s[i:]}
				if i < len(s) {
					texts = append(texts, s[:i]+string([]byte{byte(c)})+s[i+1:], s[:i]+s[i+1:])
				}
				for _, text := range texts {
					want, wantOK := fracOfText(text)
					got, ok := impl.ParseFrac(text)
					expectFrac(t, fmt.Sprintf("ParseFrac %q", text), got, ok, want, wantOK)
				}
			}
		}
	}
}
