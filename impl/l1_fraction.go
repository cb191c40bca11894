package impl

import (
	"strconv"
	"strings"
)

// MaxNumber is the maximum absolute value of a numerator or denominator.
const MaxNumber = 1000000000

// MaxSummands is the maximum number of fractions of a sum.
const MaxSummands = 100

// maxPart is the greatest absolute value of an argument of MakeFrac.
const maxPart = MaxNumber * MaxNumber

// maxExponent is the greatest exponent of PowFrac.
const maxExponent = 60

// The places in smallDivisors.
const (
	placeOfTwo = iota
	placeOfThree
	placeOfFive
	placeOfSeven
	smallCount
)

// smallDivisors are cancelled before the general search, which is thus left
// with smaller numbers: counts and their totals often share these divisors.
var smallDivisors = [smallCount]int{
	placeOfTwo:   2,
	placeOfThree: 3,
	placeOfFive:  5,
	placeOfSeven: 7,
}

// Frac is a fraction in lowest terms with a positive denominator.
type Frac struct {
	Num int
	Den int
}

// IsFrac reports whether a fraction is valid: Den is in 1..MaxNumber, Num in
// -MaxNumber..MaxNumber, and they have no common divisor greater than 1.
func IsFrac(f Frac) bool {
	return isWithinLimits(f) && commonDivisor(f.Num, f.Den) == 1
}

// MakeFrac returns n/d as a valid fraction, for n and d in -10^18..10^18 and
// d other than 0.
func MakeFrac(n int, d int) (Frac, bool) {
	if !isPart(n) || !isPart(d) || d == 0 {
		return Frac{}, false
	}
	return lowestTerms(n, d)
}

// AddFrac returns a + b.
func AddFrac(a Frac, b Frac) (Frac, bool) {
	if !IsFrac(a) || !IsFrac(b) {
		return Frac{}, false
	}
	return lowestTerms(a.Num*b.Den+b.Num*a.Den, a.Den*b.Den)
}

// SubFrac returns a - b.
func SubFrac(a Frac, b Frac) (Frac, bool) {
	if !IsFrac(a) || !IsFrac(b) {
		return Frac{}, false
	}
	return lowestTerms(a.Num*b.Den-b.Num*a.Den, a.Den*b.Den)
}

// MulFrac returns a b.
func MulFrac(a Frac, b Frac) (Frac, bool) {
	if !IsFrac(a) || !IsFrac(b) {
		return Frac{}, false
	}
	return lowestTerms(a.Num*b.Num, a.Den*b.Den)
}

// DivFrac returns a / b. It fails also if b is 0.
func DivFrac(a Frac, b Frac) (Frac, bool) {
	if !IsFrac(a) || !IsFrac(b) || b.Num == 0 {
		return Frac{}, false
	}
	return lowestTerms(a.Num*b.Den, a.Den*b.Num)
}

// PowFrac returns the power of a fraction with the exponent k in 0..60; it is
// 1 for k = 0.
func PowFrac(f Frac, k int) (Frac, bool) {
	if !IsFrac(f) || k < 0 || k > maxExponent {
		return Frac{}, false
	}
	power := Frac{Num: 1, Den: 1}
	// No power is valid after one that is not, so that to stop there is right.
	// Repeated squaring would meet powers beyond the one that is asked for.
	for range k {
		next, ok := MulFrac(power, f)
		if !ok {
			return Frac{}, false
		}
		power = next
	}
	return power, true
}

// CompareFrac returns -1, 0 or 1 if a is less than, equal to or greater than b.
func CompareFrac(a Frac, b Frac) (int, bool) {
	if !IsFrac(a) || !IsFrac(b) {
		return 0, false
	}
	left, right := a.Num*b.Den, b.Num*a.Den
	switch {
	case left < right:
		return -1, true
	case left > right:
		return 1, true
	}
	return 0, true
}

// FloorFrac returns the greatest integer that is not greater than the fraction.
func FloorFrac(f Frac) (int, bool) {
	if !IsFrac(f) {
		return 0, false
	}
	return floorOf(f), true
}

// RoundFrac returns the nearest integer, the even one of two that are equally
// near.
func RoundFrac(f Frac) (int, bool) {
	if !IsFrac(f) {
		return 0, false
	}
	below := floorOf(f)
	twiceRest := 2 * (f.Num - below*f.Den)
	if twiceRest > f.Den || twiceRest == f.Den && below%2 != 0 {
		return below + 1, true
	}
	return below, true
}

// SumFracs returns the sum of at most MaxSummands fractions, 0 for none. It
// fails also if a partial sum, in the order of the list, is not valid.
func SumFracs(l []Frac) (Frac, bool) {
	if len(l) > MaxSummands {
		return Frac{}, false
	}
	sum := Frac{Num: 0, Den: 1}
	for _, f := range l {
		next, ok := AddFrac(sum, f)
		if !ok {
			return Frac{}, false
		}
		sum = next
	}
	return sum, true
}

// FracText returns the numerator in decimal, with - in front if it is
// negative, followed by / and the denominator if this is not 1.
func FracText(f Frac) (string, bool) {
	if !IsFrac(f) {
		return "", false
	}
	text := strconv.Itoa(f.Num)
	if f.Den != 1 {
		text += "/" + strconv.Itoa(f.Den)
	}
	return text, true
}

// ParseFrac returns the valid fraction with the given FracText. It fails also
// if there is none.
func ParseFrac(s string) (Frac, bool) {
	f, ok := looseFrac(s)
	if !ok {
		return Frac{}, false
	}
	// Only the text that FracText writes is accepted, not another spelling
	// such as +1, 01, -0 or 3/1.
	if text, ok := FracText(f); !ok || text != s {
		return Frac{}, false
	}
	return f, true
}

// looseFrac reads a numerator and, behind a slash, a denominator. What it
// returns need not be a valid fraction.
func looseFrac(s string) (Frac, bool) {
	num, den, hasDen := strings.Cut(s, "/")
	if !hasDen {
		den = "1"
	}
	n, err := strconv.Atoi(num)
	if err != nil {
		return Frac{}, false
	}
	d, err := strconv.Atoi(den)
	if err != nil {
		return Frac{}, false
	}
	return Frac{Num: n, Den: d}, true
}

func isPart(n int) bool {
	return n >= -maxPart && n <= maxPart
}

func isWithinLimits(f Frac) bool {
	return f.Den >= 1 && f.Den <= MaxNumber && f.Num >= -MaxNumber && f.Num <= MaxNumber
}

// lowestTerms returns n/d as a valid fraction, for d other than 0. It takes
// absolute values up to 2 * maxPart, more than MakeFrac: sums of two products
// are that great, and may still cancel to a valid fraction.
func lowestTerms(n int, d int) (Frac, bool) {
	if d < 0 {
		n, d = -n, -d
	}
	n, d = cancelSmall(n, d)
	g := commonDivisor(n, d)
	f := Frac{Num: n / g, Den: d / g}
	if !isWithinLimits(f) {
		return Frac{}, false
	}
	return f, true
}

// cancelSmall divides n and d, which is not 0, by their common smallDivisors
// as often as these divide both.
func cancelSmall(n int, d int) (int, int) {
	for place := placeOfTwo; place < smallCount; place++ {
		p := smallDivisors[place]
		for n%p == 0 && d%p == 0 {
			n, d = n/p, d/p
		}
	}
	return n, d
}

// commonDivisor returns the greatest common divisor of n and d, for d > 0.
func commonDivisor(n int, d int) int {
	if n < 0 {
		n = -n
	}
	for n != 0 {
		n, d = d%n, n
	}
	return d
}

// floorOf returns the greatest integer that is at most a valid fraction. The
// division of Go alone would round a negative one up.
func floorOf(f Frac) int {
	quotient := f.Num / f.Den
	if f.Num%f.Den < 0 {
		return quotient - 1
	}
	return quotient
}
