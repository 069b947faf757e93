package tests

import (
	"math"
	"slices"
	"testing"

	"loop.example/g00133/impl"
)

// Promise 14: every function of the chapter, at every edge and at wrong inputs, in every place.

func TestBasesAtTheEdges(t *testing.T) {
	for _, l := range goodBases() {
		for _, r := range edgeResidues(l) {
			checkAllOfBasis(t, basisArgs{r: r, l: l})
		}
		for _, b := range edgeNumbers(l) {
			checkAllOfBasis(t, basisArgs{whole: wholeFrom(b), r: bigResidues(b, l), l: l})
		}
	}
}

func TestWholesOfAnyKindByABasis(t *testing.T) {
	for _, l := range [][]int{{2}, {3, 5, 7}, greatPrimes(impl.MaxPrimes), smallPrimes(impl.MaxPrimes)} {
		for _, a := range append(edgeWholes(), wrongWholes()...) {
			checkAllOfBasis(t, basisArgs{whole: a, r: make([]int, len(l)), l: l})
		}
	}
}

func TestWrongBases(t *testing.T) {
	for _, good := range [][]int{{2}, {lastPrime}, {3, 5, 7}, greatPrimes(impl.MaxPrimes), smallPrimes(impl.MaxPrimes)} {
		for _, l := range wrongBases(good) {
			for _, a := range []impl.Whole{{}, impl.WholeOf(5), impl.WholeOf(math.MinInt)} {
				checkAllOfBasis(t, basisArgs{whole: a, r: make([]int, len(good)), l: l})
				// residues that are as many as the wrong basis asks for
				checkAllOfBasis(t, basisArgs{whole: a, r: make([]int, len(l)), l: l})
			}
		}
	}
}

func TestEveryNumberAsTheOnlyPrime(t *testing.T) {
	prime := sieve(3000)
	for p := -50; p < 3000; p++ {
		if want := p >= 0 && prime[p]; impl.GoodBasis([]int{p}) != want {
			t.Errorf("GoodBasis of %d is not %v", p, want)
		}
	}
	for p := lastPrime - 200; p < impl.MaxPrime+200; p++ {
		if want := isBasis([]int{p}); impl.GoodBasis([]int{p}) != want || impl.GoodBasis([]int{2, p, 3}) != want {
			t.Errorf("GoodBasis of %d is not %v", p, want)
		}
	}
	for _, n := range append(wrongNumbers(), edgeInts...) {
		checkAllOfBasis(t, basisArgs{whole: impl.WholeOf(1), r: []int{0}, l: []int{n}})
		checkAllOfBasis(t, basisArgs{whole: impl.WholeOf(1), r: []int{1, 1}, l: []int{n, 65537}})
		checkAllOfBasis(t, basisArgs{whole: impl.WholeOf(1), r: []int{1, 1}, l: []int{65537, n}})
	}
}

// MaxPrimes may be met exactly.
func TestHowManyPrimesThereMayBe(t *testing.T) {
	for count := range 12 {
		for _, l := range [][]int{smallPrimes(count), greatPrimes(count)} {
			if want := count >= 1 && count <= impl.MaxPrimes; impl.GoodBasis(l) != want {
				t.Errorf("GoodBasis(%v) is not %v", l, want)
			}
			checkAllOfBasis(t, basisArgs{whole: impl.WholeOf(-1), r: make([]int, count), l: l})
		}
	}
}

func TestWrongResidues(t *testing.T) {
	for _, l := range goodBases() {
		for _, r := range wrongResidues(l) {
			checkAllOfBasis(t, basisArgs{whole: impl.WholeOf(1), r: r, l: l})
		}
		checkAllOfBasis(t, basisArgs{whole: impl.Whole{Neg: true}, r: wrongResidues(l)[0], l: nil})
	}
}

func TestZeroAnswersOfBases(t *testing.T) {
	for _, l := range [][]int{nil, {}, {4}, {3, 3}, {3, 5, 7, 3}, {2, 3, 5, 7, 11, 13, 17}, {beyondPrime}, {5, -3}} {
		product, okProduct := impl.ProductOf(l)
		residues, okResidues := impl.ResiduesOf(impl.WholeOf(7), l)
		composed, okComposed := impl.ComposeWhole(make([]int, len(l)), l)
		centred, okCentred := impl.CentredWhole(make([]int, len(l)), l)
		punctured, okPunctured := impl.PuncturedOf(l)
		inverses, okInverses := impl.InversesOf(l)
		if impl.GoodBasis(l) || okProduct || okResidues || okComposed || okCentred || okPunctured || okInverses {
			t.Errorf("%v is no basis", l)
		}
		if !sameWhole(product, impl.Whole{}) || !sameWhole(composed, impl.Whole{}) || !sameWhole(centred, impl.Whole{}) {
			t.Errorf("%v: %v, %v, %v", l, product, composed, centred)
		}
		if len(residues) != 0 || len(punctured) != 0 || len(inverses) != 0 {
			t.Errorf("%v: %v, %v, %v", l, residues, punctured, inverses)
		}
	}
}

// Residues and primes that lie in one another are only read.
func TestResiduesAndPrimesThatOverlap(t *testing.T) {
	memory := []int{2, 3, 5, 7, 11, 13, 17}
	before := slices.Clone(memory)
	for count := 1; count <= impl.MaxPrimes; count++ {
		for start := range len(memory) - count {
			x := basisArgs{whole: impl.Whole{Limbs: memory[start : start+count]}, r: memory[start : start+count], l: memory[start+1 : start+count+1]}
			for _, f := range basisFunctions() {
				got := f.call(x)
				if !got.same(f.want(x)) {
					t.Errorf("%s of %v = %v", f.name, x, got)
				}
				scribble(append(limbLists(got.wholes), got.numbers), -77)
				if !slices.Equal(memory, before) {
					t.Fatalf("%s changes its lists", f.name)
				}
			}
		}
	}
}

// The same list in two places: its numbers are never below themselves.
func TestPrimesAsTheirOwnResidues(t *testing.T) {
	for _, l := range goodBases() {
		before := slices.Clone(l)
		composed, ok := impl.ComposeWhole(l, l)
		centred, okToo := impl.CentredWhole(l, l)
		if ok || okToo || !sameWhole(composed, impl.Whole{}) || !sameWhole(centred, impl.Whole{}) || !slices.Equal(l, before) {
			t.Errorf("%v: %v, %v", l, composed, centred)
		}
	}
}

// What one call tells is not what another one has told before.
func TestAnswersOfBasesAreNewMemory(t *testing.T) {
	for _, l := range goodBases() {
		for _, f := range basisFunctions() {
			x := basisArgs{whole: impl.WholeOf(1000), r: make([]int, len(l)), l: l}
			one, two := f.call(x), f.call(x)
			lists := append(append(limbLists(one.wholes), limbLists(two.wholes)...), one.numbers, two.numbers)
			if !apart(lists) {
				t.Errorf("%s of %v tells the same memory twice", f.name, l)
			}
			scribble(lists, -77)
			if again := f.call(x); !again.same(f.want(x)) {
				t.Errorf("%s of %v = %v", f.name, l, again)
			}
		}
	}
}
