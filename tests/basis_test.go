package tests

import (
	"math/big"
	"slices"
	"testing"

	"loop.example/g00133/impl"
)

// Promise 4: numbers come back from their residues, as far as the product goes.

func residuesOf(t *testing.T, a impl.Whole, l []int) []int {
	t.Helper()
	r, ok := impl.ResiduesOf(a, l)
	if !ok || !areResidues(r, l) {
		t.Fatalf("ResiduesOf(%v, %v) = %v, %v", a, l, r, ok)
	}
	return r
}

func composedOf(t *testing.T, r []int, l []int) impl.Whole {
	t.Helper()
	a, ok := impl.ComposeWhole(r, l)
	if !ok || !isGoodWhole(a) || a.Neg || bigFrom(a).Cmp(bigProduct(l)) >= 0 {
		t.Fatalf("ComposeWhole(%v, %v) = %v, %v", r, l, a, ok)
	}
	return a
}

// centredOf asks for -product <= 2 a < product.
func centredOf(t *testing.T, r []int, l []int) impl.Whole {
	t.Helper()
	a, ok := impl.CentredWhole(r, l)
	twice, product := new(big.Int).Lsh(bigFrom(a), 1), bigProduct(l)
	if !ok || !isGoodWhole(a) || twice.Cmp(product) >= 0 || twice.Cmp(new(big.Int).Neg(product)) < 0 {
		t.Fatalf("CentredWhole(%v, %v) = %v, %v", r, l, a, ok)
	}
	return a
}

// checkNumberComesBack is for any number: beyond the product it comes back as what is left by it.
func checkNumberComesBack(t *testing.T, b *big.Int, l []int) {
	t.Helper()
	product := bigProduct(l)
	r := residuesOf(t, wholeFrom(b), l)
	composed := composedOf(t, r, l)
	if want := new(big.Int).Mod(b, product); !sameWhole(composed, wholeFrom(want)) {
		t.Errorf("%v comes back from %v by %v as %v, want %v", b, r, l, impl.WholeText(composed), want)
	}
	centred := centredOf(t, r, l)
	twice := new(big.Int).Lsh(b, 1)
	if twice.CmpAbs(product) < 0 && !sameWhole(centred, wholeFrom(b)) {
		t.Errorf("%v comes back from %v by %v centred as %v", b, r, l, impl.WholeText(centred))
	}
	if again := residuesOf(t, centred, l); !slices.Equal(again, r) {
		t.Errorf("%v by %v: centred it is %v, which has %v, not %v", b, l, impl.WholeText(centred), again, r)
	}
}

func checkResiduesComeBack(t *testing.T, r []int, l []int) {
	t.Helper()
	if again := residuesOf(t, composedOf(t, r, l), l); !slices.Equal(again, r) {
		t.Errorf("%v by %v come back as %v", r, l, again)
	}
	if again := residuesOf(t, centredOf(t, r, l), l); !slices.Equal(again, r) {
		t.Errorf("%v by %v come back as %v, by way of the centred number", r, l, again)
	}
}

func TestNumbersComeBackFromTheirResidues(t *testing.T) {
	d := dice(41)
	for _, l := range goodBases() {
		for _, b := range edgeNumbers(l) {
			checkNumberComesBack(t, b, l)
		}
		for range 40 {
			b := bigFrom(d.whole(1 + d.below(impl.MaxLimbs)))
			checkNumberComesBack(t, b, l)
			checkNumberComesBack(t, b.Mod(b, bigProduct(l)), l)
		}
	}
}

func TestResiduesComeBackFromTheirNumbers(t *testing.T) {
	d := dice(42)
	for _, l := range goodBases() {
		for _, r := range edgeResidues(l) {
			checkResiduesComeBack(t, r, l)
		}
		for range 40 {
			checkResiduesComeBack(t, d.residues(l), l)
		}
	}
}

// All numbers of small bases, once round below 0 and once above the product.
func TestAllNumbersOfSmallBases(t *testing.T) {
	for _, l := range [][]int{{2}, {3}, {5}, {2, 3}, {3, 2}, {3, 5}, {2, 5, 3}, {3, 5, 7}, {7, 2, 3, 5}} {
		product := intOf(bigProduct(l))
		for n := -product; n <= 2*product; n++ {
			checkNumberComesBack(t, bigOf(n), l)
		}
	}
	l := smallPrimes(impl.MaxPrimes)
	for n := range 30030 {
		if got := composedOf(t, residuesOf(t, impl.WholeOf(n), l), l); !sameWhole(got, impl.WholeOf(n)) {
			t.Fatalf("%d comes back as %v", n, got)
		}
	}
}

// All residues of small bases, each of which has a number of its own.
func TestAllResiduesOfSmallBases(t *testing.T) {
	for _, l := range [][]int{{2}, {3}, {13}, {2, 3}, {5, 3}, {3, 2, 5}, {7, 5, 3, 2}} {
		seen := make([]int, intOf(bigProduct(l)))
		for n := range seen {
			r := make([]int, len(l))
			left := n
			for i, p := range l {
				r[i], left = left%p, left/p
			}
			checkResiduesComeBack(t, r, l)
			seen[intOf(bigFrom(composedOf(t, r, l)))]++
		}
		if slices.Max(seen) != 1 || slices.Min(seen) != 1 {
			t.Errorf("%v: not every number has residues of its own", l)
		}
	}
}

func TestDrawnBases(t *testing.T) {
	d := dice(43)
	for range 300 {
		l := d.basis(1 + d.below(impl.MaxPrimes))
		for _, b := range edgeNumbers(l) {
			checkNumberComesBack(t, b, l)
		}
		for range 5 {
			checkResiduesComeBack(t, d.residues(l), l)
			checkAllOfBasis(t, basisArgs{whole: d.whole(d.below(impl.MaxLimbs + 1)), r: d.residues(l), l: l})
		}
	}
}

func TestNamedNumbers(t *testing.T) {
	cases := []struct {
		l, r              []int
		composed, centred string
	}{
		{[]int{3, 5, 7}, []int{2, 3, 2}, "23", "23"},
		{[]int{3, 5, 7}, []int{2, 4, 6}, "104", "-1"},
		{[]int{7, 3, 5}, []int{2, 2, 3}, "23", "23"},
		{[]int{3, 5, 7}, []int{0, 0, 0}, "0", "0"},
		{[]int{3, 5, 7}, []int{1, 2, 3}, "52", "52"},
		{[]int{3, 5, 7}, []int{2, 3, 4}, "53", "-52"},
		{[]int{2}, []int{0}, "0", "0"},
		{[]int{2}, []int{1}, "1", "-1"},
		{[]int{3}, []int{1}, "1", "1"},
		{[]int{3}, []int{2}, "2", "-1"},
		{[]int{2, 3}, []int{0, 2}, "2", "2"},
		{[]int{2, 3}, []int{1, 0}, "3", "-3"},
		{[]int{2, 3}, []int{0, 1}, "4", "-2"},
		{[]int{3, 2}, []int{0, 1}, "3", "-3"},
		{[]int{lastPrime}, []int{134217699}, "134217699", "134217699"},
		{[]int{lastPrime}, []int{134217700}, "134217700", "-134217699"},
		{[]int{2, lastPrime}, []int{1, 0}, "268435399", "-268435399"},
		{[]int{2, lastPrime}, []int{0, lastPrime - 1}, "268435398", "268435398"},
	}
	for _, c := range cases {
		a, ok := impl.ComposeWhole(c.r, c.l)
		if impl.WholeText(a) != c.composed || !ok {
			t.Errorf("ComposeWhole(%v, %v) = %s, %v, want %s", c.r, c.l, impl.WholeText(a), ok, c.composed)
		}
		a, ok = impl.CentredWhole(c.r, c.l)
		if impl.WholeText(a) != c.centred || !ok {
			t.Errorf("CentredWhole(%v, %v) = %s, %v, want %s", c.r, c.l, impl.WholeText(a), ok, c.centred)
		}
	}
}

// Twice a number can be the product only where 2 is among the primes: from there on it is told below 0.
func TestCentredFromHalfOn(t *testing.T) {
	for _, l := range goodBases() {
		product := bigProduct(l)
		half := new(big.Int).Rsh(product, 1)
		less := new(big.Int).Sub(half, bigOf(1))
		more := new(big.Int).Add(half, bigOf(1))
		if got := centredOf(t, bigResidues(less, l), l); less.Sign() >= 0 && !sameWhole(got, wholeFrom(less)) {
			t.Errorf("%v: %v is centred %v", l, less, got)
		}
		wantHalf := new(big.Int).Set(half)
		if slices.Contains(l, 2) {
			wantHalf.Neg(half)
		}
		if got := centredOf(t, bigResidues(half, l), l); !sameWhole(got, wholeFrom(wantHalf)) {
			t.Errorf("%v: %v is centred %v, want %v", l, half, got, wantHalf)
		}
		if more.Cmp(product) < 0 {
			if got := centredOf(t, bigResidues(more, l), l); !sameWhole(got, wholeFrom(new(big.Int).Sub(more, product))) {
				t.Errorf("%v: %v is centred %v", l, more, got)
			}
		}
	}
}

func TestInversesTimesPuncturedLeaveOne(t *testing.T) {
	d := dice(44)
	bases := goodBases()
	for range 300 {
		bases = append(bases, d.basis(1+d.below(impl.MaxPrimes)))
	}
	for _, l := range bases {
		inverses, ok := impl.InversesOf(l)
		punctured, okToo := impl.PuncturedOf(l)
		product, okProduct := impl.ProductOf(l)
		if !ok || !okToo || !okProduct || !areResidues(inverses, l) || len(punctured) != len(l) {
			t.Fatalf("%v: %v, %v, %v", l, inverses, punctured, product)
		}
		for i, p := range l {
			times, _ := impl.MulWholes(punctured[i], impl.WholeOf(inverses[i]))
			for _, other := range l {
				want := 0
				if other == p {
					want = 1
				}
				if n := impl.ModWord(times, other); n != want {
					t.Errorf("%v: at %d the inverse times the others leaves %d by %d", l, p, n, other)
				}
			}
			if whole, _ := impl.MulWholes(punctured[i], impl.WholeOf(p)); !sameWhole(whole, product) {
				t.Errorf("%v: %d times the others is not the product", l, p)
			}
		}
	}
}

func TestProductsPuncturedAndInversesByName(t *testing.T) {
	cases := []struct {
		l         []int
		product   string
		punctured []string
		inverses  []int
	}{
		{[]int{2}, "2", []string{"1"}, []int{1}},
		{[]int{3}, "3", []string{"1"}, []int{1}},
		{[]int{lastPrime}, "268435399", []string{"1"}, []int{1}},
		{[]int{2, 3}, "6", []string{"3", "2"}, []int{1, 2}},
		{[]int{3, 2}, "6", []string{"2", "3"}, []int{2, 1}},
		{[]int{3, 5, 7}, "105", []string{"35", "21", "15"}, []int{2, 1, 1}},
		{[]int{7, 3, 5}, "105", []string{"15", "35", "21"}, []int{1, 2, 1}},
		{[]int{2, 3, 5, 7, 11, 13}, "30030", []string{"15015", "10010", "6006", "4290", "2730", "2310"}, []int{1, 2, 1, 6, 6, 3}},
	}
	for _, c := range cases {
		if product, ok := impl.ProductOf(c.l); impl.WholeText(product) != c.product || !ok {
			t.Errorf("ProductOf(%v) = %v, %v", c.l, product, ok)
		}
		punctured, ok := impl.PuncturedOf(c.l)
		var texts []string
		for _, a := range punctured {
			texts = append(texts, impl.WholeText(a))
		}
		if !ok || !slices.Equal(texts, c.punctured) {
			t.Errorf("PuncturedOf(%v) = %v, %v", c.l, texts, ok)
		}
		if inverses, ok := impl.InversesOf(c.l); !ok || !slices.Equal(inverses, c.inverses) {
			t.Errorf("InversesOf(%v) = %v, %v", c.l, inverses, ok)
		}
	}
}

// The order of the primes is that of the answers, and changes no number.
func TestPrimesMayBeInAnyOrder(t *testing.T) {
	d := dice(45)
	for _, l := range [][]int{smallPrimes(4), greatPrimes(4), {2, lastPrime, 3, 65537}} {
		b := bigFrom(d.above(10))
		b.Mod(b, bigProduct(l))
		for _, places := range ordersOf(len(l)) {
			other := make([]int, len(l))
			for i, place := range places {
				other[i] = l[place]
			}
			checkNumberComesBack(t, b, other)
			checkAllOfBasis(t, basisArgs{whole: wholeFrom(b), r: bigResidues(b, other), l: other})
		}
	}
}

// ordersOf are all orders of the numbers below n.
func ordersOf(n int) [][]int {
	if n == 0 {
		return [][]int{{}}
	}
	var orders [][]int
	for _, order := range ordersOf(n - 1) {
		for place := range n {
			orders = append(orders, slices.Insert(slices.Clone(order), place, n-1))
		}
	}
	return orders
}
