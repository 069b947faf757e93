package tests

import (
	"fmt"
	"math/big"
	"slices"
	"testing"

	"loop.example/g00133/impl"
)

// convArgs hold what any way from one basis to another is given; each takes what it needs.
type convArgs struct {
	r, rest, from, to []int
	extra, at, m      int
	t, gamma          int
}

// convAnswer is what any of these ways answers.
type convAnswer struct {
	numbers []int
	number  int
	ok      bool
}

func (a convAnswer) same(other convAnswer) bool {
	return slices.Equal(a.numbers, other.numbers) && a.number == other.number && a.ok == other.ok
}

// ofConv is a function of the chapter, what the document asks of it, by other means, and when its arguments are as said.
type ofConv struct {
	name   string
	call   func(x convArgs) convAnswer
	want   func(x convArgs) convAnswer
	asSaid func(x convArgs) bool
}

func convNumbers(l []int, ok bool) convAnswer {
	return convAnswer{numbers: l, ok: ok}
}

func convNumber(n int, ok bool) convAnswer {
	return convAnswer{number: n, ok: ok}
}

func convFunctions() []ofConv {
	return []ofConv{
		{"FastConvert", func(x convArgs) convAnswer { return convNumbers(impl.FastConvert(x.r, x.from, x.to)) }, wantFast, hasTo},
		{"OverOf", func(x convArgs) convAnswer { return convNumber(impl.OverOf(x.r, x.from)) }, wantOver, hasFrom},
		{"ExactConvert", func(x convArgs) convAnswer { return convNumbers(impl.ExactConvert(x.r, x.from, x.extra, x.at, x.to)) }, wantExact, isForExact},
		{"SmallMont", func(x convArgs) convAnswer { return convNumbers(impl.SmallMont(x.r, x.at, x.from, x.m, x.to)) }, wantSmallMont, isForMont},
		{"FloorConvert", func(x convArgs) convAnswer { return convNumbers(impl.FloorConvert(x.r, x.rest, x.from, x.to)) }, wantFloor, isForFloor},
		{"ScaleDown", func(x convArgs) convAnswer { return convNumber(impl.ScaleDown(x.r, x.from, x.t, x.gamma)) }, wantScale, isForScale},
	}
}

func convFunction(name string) ofConv {
	for _, f := range convFunctions() {
		if f.name == name {
			return f
		}
	}
	panic(name)
}

func hasFrom(x convArgs) bool {
	return isBasis(x.from) && areResidues(x.r, x.from)
}

func hasTo(x convArgs) bool {
	return hasFrom(x) && isBasis(x.to)
}

func isPrimeModulus(p int) bool {
	return isModulus(p) && bigOf(p).ProbablyPrime(0)
}

func isForExact(x convArgs) bool {
	if !hasTo(x) || !isPrimeModulus(x.extra) || x.extra <= 2*len(x.from) {
		return false
	}
	return !slices.Contains(slices.Concat(x.from, x.to), x.extra) && x.at >= 0 && x.at < x.extra
}

func isForMont(x convArgs) bool {
	if !hasTo(x) || slices.Contains(slices.Concat(x.from, x.to), 2) {
		return false
	}
	return slices.Contains(smallPowers(), x.m) && x.at >= 0 && x.at < x.m
}

// smallPowers are all powers of two in 4..65536.
func smallPowers() []int {
	var powers []int
	for m := 4; m <= 65536; m *= 2 {
		powers = append(powers, m)
	}
	return powers
}

func isForFloor(x convArgs) bool {
	return hasTo(x) && areResidues(x.rest, x.to) && coprime(bigProduct(x.from), bigProduct(x.to))
}

func coprime(a *big.Int, b *big.Int) bool {
	return new(big.Int).GCD(nil, nil, a, b).Cmp(bigOf(1)) == 0
}

func isForScale(x convArgs) bool {
	if !hasFrom(x) || x.t < 2 || x.t > 65536 || !isPrimeModulus(x.gamma) || x.t >= x.gamma {
		return false
	}
	t, gamma, q := bigOf(x.t), bigOf(x.gamma), bigProduct(x.from)
	return coprime(t, gamma) && coprime(t, q) && coprime(gamma, q)
}

// bigSum is FastConvert's sum, not modulo anything.
func bigSum(r []int, from []int) *big.Int {
	sum := new(big.Int)
	for i, p := range from {
		others := bigPunctured(from, i)
		share := new(big.Int).ModInverse(others, bigOf(p))
		share.Mul(share, bigOf(r[i])).Mod(share, bigOf(p))
		sum.Add(sum, share.Mul(share, others))
	}
	return sum
}

// bigQuotient is a / b modulo m.
func bigQuotient(a *big.Int, b *big.Int, m int) *big.Int {
	quotient := new(big.Int).ModInverse(new(big.Int).Mod(b, bigOf(m)), bigOf(m))
	return quotient.Mul(quotient, a).Mod(quotient, bigOf(m))
}

// bigBelowHalf takes what is left by m less m where it is above most.
func bigBelowHalf(left *big.Int, m int, most int) *big.Int {
	if left.Cmp(bigOf(most)) > 0 {
		return new(big.Int).Sub(left, bigOf(m))
	}
	return left
}

func wantFast(x convArgs) convAnswer {
	return convNumbers(bigResidues(bigSum(x.r, x.from), x.to), true)
}

func wantOver(x convArgs) convAnswer {
	over := bigSum(x.r, x.from)
	over.Sub(over, bigComposed(x.r, x.from))
	return convNumber(intOf(over.Quo(over, bigProduct(x.from))), true)
}

func wantExact(x convArgs) convAnswer {
	sum, q := bigSum(x.r, x.from), bigProduct(x.from)
	often := bigQuotient(new(big.Int).Sub(sum, bigOf(x.at)), q, x.extra)
	often = bigBelowHalf(often, x.extra, (x.extra-1)/2)
	return convNumbers(bigResidues(sum.Sub(sum, q.Mul(q, often)), x.to), true)
}

// montSum is the sum and q c, of which SmallMont tells the m-th part.
func montSum(x convArgs) *big.Int {
	q := bigProduct(x.from)
	c := bigBelowHalf(bigQuotient(bigOf(-x.at), q, x.m), x.m, x.m/2-1)
	return q.Add(q.Mul(q, c), bigSum(x.r, x.from))
}

func wantSmallMont(x convArgs) convAnswer {
	sum := montSum(x)
	var want []int
	for _, b := range x.to {
		want = append(want, intOf(bigQuotient(sum, bigOf(x.m), b)))
	}
	return convNumbers(want, true)
}

func wantFloor(x convArgs) convAnswer {
	sum, q := bigSum(x.r, x.from), bigProduct(x.from)
	var want []int
	for i, b := range x.to {
		want = append(want, intOf(bigQuotient(new(big.Int).Sub(bigOf(x.rest[i]), sum), q, b)))
	}
	return convNumbers(want, true)
}

// bigTimesScale are the residues of what is left by q of x t gamma.
func bigTimesScale(x convArgs) []int {
	scaled := make([]int, len(x.from))
	for i, p := range x.from {
		n := new(big.Int).Mul(bigOf(x.t), bigOf(x.gamma))
		scaled[i] = intOf(n.Mul(n, bigOf(x.r[i])).Mod(n, bigOf(p)))
	}
	return scaled
}

func wantScale(x convArgs) convAnswer {
	sum, lessQ := bigSum(bigTimesScale(x), x.from), bigProduct(x.from)
	lessQ.Neg(lessQ)
	u, v := bigQuotient(sum, lessQ, x.t), bigQuotient(sum, lessQ, x.gamma)
	v = bigBelowHalf(v, x.gamma, (x.gamma-1)/2)
	return convNumber(intOf(bigQuotient(u.Sub(u, v), bigOf(x.gamma), x.t)), true)
}

// wanted is the zero answer where an argument is not as said.
func (f ofConv) wanted(x convArgs) convAnswer {
	if !f.asSaid(x) {
		return convAnswer{}
	}
	return f.want(x)
}

// checkConv holds one call against the second reckoning, and looks after the memory of its lists and of its answer.
func checkConv(t *testing.T, f ofConv, x convArgs) {
	t.Helper()
	want := f.wanted(x)
	call := fmt.Sprintf("%s of %.300s", f.name, fmt.Sprintf("%+v", x))
	checkMemory(t, call, [][]int{x.r, x.rest, x.from, x.to}, func(laid [][]int) [][]int {
		y := x
		y.r, y.rest, y.from, y.to = laid[0], laid[1], laid[2], laid[3]
		got := f.call(y)
		if !got.same(want) {
			t.Errorf("%s = %v, want %v", call, got, want)
		}
		return [][]int{got.numbers}
	})
}

// checkAllOfConv asks every function of the chapter.
func checkAllOfConv(t *testing.T, x convArgs) {
	t.Helper()
	for _, f := range convFunctions() {
		checkConv(t, f, x)
	}
}

// primeBeside is the next prime from n on, in steps of one way, that is in none of the lists.
func primeBeside(n int, step int, lists ...[]int) int {
	for p := n; ; p += step {
		if isPrimeModulus(p) && !slices.Contains(slices.Concat(lists...), p) {
			return p
		}
	}
}

// extrasFor are one that is just above twice the number of from's primes, one near MaxPrime, and one between.
func extrasFor(from []int, to []int) []int {
	return []int{primeBeside(2*len(from)+1, 1, from, to), primeBeside(10007, 1, from, to), primeBeside(impl.MaxPrime, -1, from, to)}
}

// scale is a t and a gamma.
type scale struct {
	t, gamma int
}

// scalesFor are of the least t and the greatest that have no factor in common with q, and some between, each with a gamma just above and with one near MaxPrime.
func scalesFor(from []int) []scale {
	var scales []scale
	q := bigProduct(from)
	for _, t := range []int{2, 3, 4, 5, 6, 9, 15, 17, 60, 97, 256, 257, 1155, 30030, 65519, 65521, 65534, 65535, 65536} {
		if coprime(bigOf(t), q) {
			scales = append(scales, scale{t, primeBeside(t+1, 1, from)}, scale{t, primeBeside(impl.MaxPrime, -1, from)})
		}
	}
	return scales
}

// otherBases are what is led to: of one prime and of MaxPrimes, great and small, with and without 2.
func otherBases() [][]int {
	return [][]int{{2}, {3}, {lastPrime}, {11}, {5, 3}, {3, 2}, {17, 65537}, {19, 2, lastPrime}, {13, 97, 268435367}, {23, 17, 3, 7, 29}, smallPrimes(impl.MaxPrimes), backward(greatPrimes(impl.MaxPrimes)), {101, 103, 107, 109, 113, 127}, {lastPrime, 3, 786433, 5, 12289, 7}}
}

// goodConv is as said for every function, so far as these bases are so for it.
func goodConv(r []int, from []int, to []int) convArgs {
	x := convArgs{r: r, from: from, to: to, at: 2, m: 4, rest: make([]int, len(to))}
	x.extra = extrasFor(from, to)[0]
	for i, b := range to {
		x.rest[i] = b - 1
	}
	x.t = 2
	for !coprime(bigOf(x.t), bigProduct(from)) {
		x.t++
	}
	x.gamma = primeBeside(x.t+1, 1, from)
	return x
}

// conv is drawn: bases that may share primes, and all else as said, so far as these bases let it be.
func (d *dice) conv() convArgs {
	from, to := d.basis(1+d.below(impl.MaxPrimes)), d.basis(1+d.below(impl.MaxPrimes))
	x := convArgs{r: d.residues(from), rest: d.residues(to), from: from, to: to}
	x.extra = primeBeside(2*len(from)+1+d.below(2<<d.below(27)), 1, from, to)
	x.m = 4 << d.below(15)
	x.at = d.below(min(x.extra, x.m))
	x.t = 2 + d.below(65535)
	for !coprime(bigOf(x.t), bigProduct(from)) {
		x.t = 2 + d.below(65535)
	}
	x.gamma = primeBeside(x.t+1+d.below(2<<d.below(27)), 1, from)
	return x
}
