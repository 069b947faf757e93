package tests

import (
	"fmt"
	"math"
	"math/big"
	"slices"
	"testing"

	"loop.example/g00133/impl"
)

// beyondPrime is the least prime above MaxPrime, so no modulus.
const beyondPrime = 268435459

// greatPrimes are the so many greatest primes that are moduli, the greatest first.
func greatPrimes(count int) []int {
	var primes []int
	for p := impl.MaxPrime; len(primes) < count; p-- {
		if bigOf(p).ProbablyPrime(0) {
			primes = append(primes, p)
		}
	}
	return primes
}

// smallPrimes are the so many least ones, the least first.
func smallPrimes(count int) []int {
	var primes []int
	for p := 2; len(primes) < count; p++ {
		if bigOf(p).ProbablyPrime(0) {
			primes = append(primes, p)
		}
	}
	return primes
}

func backward(l []int) []int {
	other := slices.Clone(l)
	slices.Reverse(other)
	return other
}

// goodBases: of one prime and of MaxPrimes, the least and the greatest primes and both together, in several orders.
func goodBases() [][]int {
	bases := [][]int{{2}, {3}, {97}, {lastPrime}, {2, 3}, {3, 2}, {3, 5, 7}, {7, 3, 5}, {2, lastPrime}, {lastPrime, 2}, {lastPrime, 2, 3}, {65537, 786433, 12289}}
	for count := 2; count <= impl.MaxPrimes; count++ {
		small, great := smallPrimes(count), greatPrimes(count)
		mixed := append(slices.Clone(great[:count/2]), small[:count-count/2]...)
		bases = append(bases, small, backward(small), great, backward(great), mixed, backward(mixed))
	}
	return append(bases, []int{lastPrime, 2, 65537, 3, 786433, 5}, []int{5, 268435367, 2, 97, lastPrime, 3})
}

// basis is one of so many unlike primes, of sizes that are as different as their places.
func (d *dice) basis(count int) []int {
	var l []int
	for len(l) < count {
		p := 2 + d.below(2<<d.below(28))
		if isModulus(p) && bigOf(p).ProbablyPrime(0) && !slices.Contains(l, p) {
			l = append(l, p)
		}
	}
	return l
}

func (d *dice) residues(l []int) []int {
	r := make([]int, len(l))
	for i, p := range l {
		r[i] = d.below(p)
	}
	return r
}

// wrongNumbers are none that a basis may hold: no modulus, or no prime, some of them nearly one.
func wrongNumbers() []int {
	return []int{
		math.MinInt, -lastPrime, -7, -3, -2, -1, 0, 1, 4, 6, 9, 15, 25, 91, 561, 1729, 2047, 65536, 1373653, 25326001, lastPrime - 1, lastPrime + 1,
		impl.MaxPrime - 1, impl.MaxPrime, impl.MaxPrime + 1, beyondPrime, twoTo32 + 2, twoTo32 + 3, 4294967311, 1<<61 - 1, math.MaxInt,
	}
}

// wrongBases are beside a good one, each for another cause.
func wrongBases(l []int) [][]int {
	wrong := [][]int{nil, {}, make([]int, 1), make([]int, len(l)), smallPrimes(impl.MaxPrimes + 1), greatPrimes(impl.MaxPrimes + 1), smallPrimes(100), slices.Repeat(l, 2), slices.Repeat([]int{lastPrime}, 1000)}
	for i := range l {
		for k := range i {
			twice := slices.Clone(l)
			twice[i] = twice[k]
			wrong = append(wrong, twice)
		}
		for _, n := range wrongNumbers() {
			other := slices.Clone(l)
			other[i] = n
			wrong = append(wrong, other)
		}
	}
	return wrong
}

// edgeResidues: 0 and the prime less 1 in all places, and in each place alone.
func edgeResidues(l []int) [][]int {
	least, most := make([]int, len(l)), make([]int, len(l))
	for i, p := range l {
		most[i] = p - 1
	}
	edges := [][]int{least, most}
	for i, p := range l {
		for _, x := range []int{1, p / 2, p - 1} {
			alone, lacking := slices.Clone(least), slices.Clone(most)
			alone[i], lacking[i] = x, p-1-x
			edges = append(edges, alone, lacking)
		}
	}
	return edges
}

// wrongResidues are none of the basis: by their length, or by a number in each place in turn.
func wrongResidues(l []int) [][]int {
	lists := [][]int{nil, make([]int, len(l)-1), make([]int, len(l)+1), make([]int, 2*len(l)), make([]int, 1000), slices.Clone(l)}
	for i, p := range l {
		for _, x := range []int{-1, p, p + 1, -p, 1 - p, 2 * p, math.MinInt, math.MaxInt} {
			r := make([]int, len(l))
			r[i] = x
			lists = append(lists, r)
		}
	}
	return lists
}

func bigProduct(l []int) *big.Int {
	product := bigOf(1)
	for _, p := range l {
		product.Mul(product, bigOf(p))
	}
	return product
}

// edgeNumbers lie at and beside 0, half the product, the product and twice it, below 0 too, and as far as whole numbers go.
func edgeNumbers(l []int) []*big.Int {
	product := bigProduct(l)
	half, twice := new(big.Int).Rsh(product, 1), new(big.Int).Lsh(product, 1)
	var numbers []*big.Int
	for _, b := range []*big.Int{new(big.Int), half, product, new(big.Int).Add(product, half), twice} {
		for near := -2; near <= 2; near++ {
			n := new(big.Int).Add(b, bigOf(near))
			numbers = append(numbers, n, new(big.Int).Neg(n))
		}
	}
	return append(numbers, greatest(), new(big.Int).Neg(greatest()))
}

func isBasis(l []int) bool {
	if len(l) < 1 || len(l) > impl.MaxPrimes {
		return false
	}
	for i, p := range l {
		if !isModulus(p) || !bigOf(p).ProbablyPrime(0) || slices.Index(l, p) != i {
			return false
		}
	}
	return true
}

func areResidues(r []int, l []int) bool {
	if len(r) != len(l) {
		return false
	}
	for i, x := range r {
		if x < 0 || x >= l[i] {
			return false
		}
	}
	return true
}

func bigResidues(b *big.Int, l []int) []int {
	r := make([]int, len(l))
	for i, p := range l {
		r[i] = intOf(new(big.Int).Mod(b, bigOf(p)))
	}
	return r
}

// bigComposed goes prime by prime: so many products of the primes ahead are added that the next residue is right too.
func bigComposed(r []int, l []int) *big.Int {
	composed, step := new(big.Int), bigOf(1)
	for i, p := range l {
		often := new(big.Int).Sub(bigOf(r[i]), composed)
		often.Mul(often, new(big.Int).ModInverse(step, bigOf(p)))
		often.Mod(often, bigOf(p))
		composed.Add(composed, often.Mul(often, step))
		step.Mul(step, bigOf(p))
	}
	return composed
}

func bigCentred(r []int, l []int) *big.Int {
	composed, product := bigComposed(r, l), bigProduct(l)
	if new(big.Int).Lsh(composed, 1).Cmp(product) >= 0 {
		composed.Sub(composed, product)
	}
	return composed
}

// bigPunctured divides, where the program multiplies.
func bigPunctured(l []int, i int) *big.Int {
	return new(big.Int).Quo(bigProduct(l), bigOf(l[i]))
}

// basisArgs hold what any function of a basis is given; each takes what it needs.
type basisArgs struct {
	whole impl.Whole
	r     []int
	l     []int
}

// basisAnswer is what any function of a basis answers.
type basisAnswer struct {
	wholes  []impl.Whole
	numbers []int
	ok      bool
}

func (a basisAnswer) same(other basisAnswer) bool {
	return slices.EqualFunc(a.wholes, other.wholes, sameWhole) && slices.Equal(a.numbers, other.numbers) && a.ok == other.ok
}

// ofBasis is a function of a basis, and what the document asks of it, by other means, where the arguments are as said.
type ofBasis struct {
	name string
	call func(x basisArgs) basisAnswer
	want func(x basisArgs) basisAnswer
	// zero: what is answered where an argument is not as said
	zero basisAnswer
	// whole: it takes a whole number; residues: it takes r
	whole    bool
	residues bool
}

func oneWhole(a impl.Whole, ok bool) basisAnswer {
	return basisAnswer{wholes: []impl.Whole{a}, ok: ok}
}

func listOfNumbers(l []int, ok bool) basisAnswer {
	return basisAnswer{numbers: l, ok: ok}
}

func basisFunctions() []ofBasis {
	none := oneWhole(impl.Whole{}, false)
	return []ofBasis{
		{name: "GoodBasis", call: func(x basisArgs) basisAnswer { return basisAnswer{ok: impl.GoodBasis(x.l)} }, want: func(x basisArgs) basisAnswer { return basisAnswer{ok: true} }},
		{name: "ProductOf", zero: none, call: func(x basisArgs) basisAnswer { return oneWhole(impl.ProductOf(x.l)) }, want: func(x basisArgs) basisAnswer { return oneWhole(wholeFrom(bigProduct(x.l)), true) }},
		{name: "ResiduesOf", whole: true, call: func(x basisArgs) basisAnswer { return listOfNumbers(impl.ResiduesOf(x.whole, x.l)) }, want: func(x basisArgs) basisAnswer { return listOfNumbers(bigResidues(bigFrom(x.whole), x.l), true) }},
		{name: "ComposeWhole", zero: none, residues: true, call: func(x basisArgs) basisAnswer { return oneWhole(impl.ComposeWhole(x.r, x.l)) }, want: func(x basisArgs) basisAnswer { return oneWhole(wholeFrom(bigComposed(x.r, x.l)), true) }},
		{name: "CentredWhole", zero: none, residues: true, call: func(x basisArgs) basisAnswer { return oneWhole(impl.CentredWhole(x.r, x.l)) }, want: func(x basisArgs) basisAnswer { return oneWhole(wholeFrom(bigCentred(x.r, x.l)), true) }},
		{name: "PuncturedOf", call: callPunctured, want: wantPunctured},
		{name: "InversesOf", call: func(x basisArgs) basisAnswer { return listOfNumbers(impl.InversesOf(x.l)) }, want: wantInverses},
	}
}

func callPunctured(x basisArgs) basisAnswer {
	wholes, ok := impl.PuncturedOf(x.l)
	return basisAnswer{wholes: wholes, ok: ok}
}

func wantPunctured(x basisArgs) basisAnswer {
	want := basisAnswer{ok: true}
	for i := range x.l {
		want.wholes = append(want.wholes, wholeFrom(bigPunctured(x.l, i)))
	}
	return want
}

func wantInverses(x basisArgs) basisAnswer {
	want := basisAnswer{ok: true}
	for i, p := range x.l {
		want.numbers = append(want.numbers, intOf(new(big.Int).ModInverse(bigPunctured(x.l, i), bigOf(p))))
	}
	return want
}

func (f ofBasis) isAsSaid(x basisArgs) bool {
	return isBasis(x.l) && (!f.whole || isGoodWhole(x.whole)) && (!f.residues || areResidues(x.r, x.l))
}

// checkBasis holds one call against the second reckoning, and looks after the memory of its lists and of its answer.
func checkBasis(t *testing.T, f ofBasis, x basisArgs) {
	t.Helper()
	want := f.zero
	if f.isAsSaid(x) {
		want = f.want(x)
	}
	call := fmt.Sprintf("%s of %.300s", f.name, fmt.Sprint(x))
	checkMemory(t, call, [][]int{x.whole.Limbs, x.r, x.l}, func(laid [][]int) [][]int {
		got := f.call(basisArgs{whole: impl.Whole{Neg: x.whole.Neg, Limbs: laid[0]}, r: laid[1], l: laid[2]})
		if !got.same(want) {
			t.Errorf("%s = %v, want %v", call, got, want)
		}
		return append(limbLists(got.wholes), got.numbers)
	})
}

// checkAllOfBasis asks every function of the chapter.
func checkAllOfBasis(t *testing.T, x basisArgs) {
	t.Helper()
	for _, f := range basisFunctions() {
		checkBasis(t, f, x)
	}
}
