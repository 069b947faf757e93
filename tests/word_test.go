package tests

import (
	"math"
	"math/big"
	"testing"

	"loop.example/g00133/impl"
)

// Promise 1: the three ways and the plain remainder tell one product.
func checkProduct(t *testing.T, p int, x int, y int) {
	t.Helper()
	want := x * y % p
	b, okB := impl.BarrettOf(p)
	m, okM := impl.MontOf(p)
	if !okB || !okM {
		t.Fatalf("p %d: BarrettOf %v, MontOf %v", p, okB, okM)
	}
	if n, ok := impl.BarrettMul(b, x, y); n != want || !ok {
		t.Fatalf("BarrettMul(%v, %d, %d) = %d, %v, want %d", b, x, y, n, ok, want)
	}
	once, _ := impl.MontMul(m, x, y)
	if n, ok := impl.MontMul(m, once, m.Two); n != want || !ok {
		t.Fatalf("MontMul there and back (%v, %d, %d) = %d, %v, want %d", m, x, y, n, ok, want)
	}
	if once<<32%p != want {
		t.Fatalf("MontMul(%v, %d, %d) = %d, which times 2^32 is not %d", m, x, y, once, want)
	}
	checkShoup(t, x, p, y)
}

func checkShoup(t *testing.T, w int, p int, x int) {
	t.Helper()
	pre, ok := impl.ShoupOf(w, p)
	if want, _ := wantShoup(w, p); pre != want || !ok {
		t.Fatalf("ShoupOf(%d, %d) = %d, %v, want %d", w, p, pre, ok, want)
	}
	n, ok := impl.ShoupMul(w, pre, p, x)
	if want, _ := wantShoupMul(w, pre, p, x); n != want || !ok {
		t.Fatalf("ShoupMul(%d, %d, %d, %d) = %d, %v, want %d", w, pre, p, x, n, ok, want)
	}
	if n < 0 || n >= 2*p {
		t.Fatalf("ShoupMul(%d, %d, %d, %d) = %d is not below twice the prime", w, pre, p, x, n)
	}
	if n >= p {
		n -= p
	}
	if n != w*x%p {
		t.Fatalf("ShoupMul(%d, %d, %d, %d) less the prime is %d, want %d", w, pre, p, x, n, w*x%p)
	}
}

func TestWaysOfMultiplyingAgreeOnSmallModuli(t *testing.T) {
	for p := 3; p < 70; p += 2 {
		for x := range p {
			for y := range p {
				checkProduct(t, p, x, y)
			}
		}
	}
}

func TestWaysOfMultiplyingAgreeOnGreatModuli(t *testing.T) {
	d := dice(1)
	for _, p := range oddModuli {
		edges := []int{0, 1, 2, p / 2, p - 2, p - 1}
		for _, x := range edges {
			for _, y := range edges {
				checkProduct(t, p, x, y)
			}
			checkProduct(t, p, x, d.below(p))
		}
		for range 2000 {
			checkProduct(t, p, d.below(p), d.below(p))
		}
	}
}

func TestShoupTakesEvenModuliAndGreatFactors(t *testing.T) {
	d := dice(2)
	for _, p := range append([]int{2, 4, 6, 96, 1 << 27, impl.MaxPrime - 2, impl.MaxPrime}, oddModuli...) {
		for _, w := range []int{0, 1, p / 2, p - 1, d.below(p), d.below(p)} {
			for _, x := range []int{0, p - 1, p, p + 1, 2*p - 1, twoTo32 - 2, twoTo32 - 1} {
				checkShoup(t, w, p, x)
			}
			for range 200 {
				checkShoup(t, w, p, d.below(twoTo32))
			}
		}
	}
}

func TestShoupIsNotYetLessThePrime(t *testing.T) {
	// 1 2^32 / 3 is told down: 1431655765, and that times 3 stays below 2^32
	if n, ok := impl.ShoupMul(1, 1431655765, 3, 3); n != 3 || !ok {
		t.Error(n, ok)
	}
	if n, ok := impl.ShoupMul(1, 1431655765, 3, twoTo32-1); n != 3 || !ok {
		t.Error(n, ok)
	}
}

func TestBarrettAndMontAreAsSaid(t *testing.T) {
	d := dice(3)
	moduli := append([]int{}, oddModuli...)
	for range 3000 {
		moduli = append(moduli, 2*d.below(impl.MaxPrime/2-1)+3)
	}
	for _, p := range moduli {
		b, okB := impl.BarrettOf(p)
		if want, ok := wantBarrett(p); b != want || okB != ok {
			t.Errorf("BarrettOf(%d) = %v, %v, want %v", p, b, okB, want)
		}
		m, okM := impl.MontOf(p)
		if want, ok := wantMont(p); m != want || okM != ok {
			t.Errorf("MontOf(%d) = %v, %v, want %v", p, m, okM, want)
		}
	}
	if b, ok := impl.BarrettOf(3); b != (impl.Barrett{P: 3, Shift: 4, Mul: 5}) || !ok {
		t.Error(b, ok)
	}
	if m, ok := impl.MontOf(3); m != (impl.Mont{P: 3, Inv: 1431655765, Two: 1}) || !ok {
		t.Error(m, ok)
	}
}

func TestPowers(t *testing.T) {
	for p := 2; p < 40; p++ {
		for a := -2 * p; a <= 2*p; a++ {
			want := 1
			for e := range 12 {
				if n := impl.PowMod(a, e, p); n != want {
					t.Fatalf("PowMod(%d, %d, %d) = %d, want %d", a, e, p, n, want)
				}
				want = want * bigMod(a, p) % p
			}
		}
	}
	d := dice(4)
	for range 3000 {
		a, e, p := int(d.next()), int(d.next()>>1), 2+d.below(impl.MaxPrime-1)
		if n := impl.PowMod(a, e, p); n != wantPow(a, e, p) {
			t.Errorf("PowMod(%d, %d, %d) = %d, want %d", a, e, p, n, wantPow(a, e, p))
		}
	}
	for _, p := range []int{2, 3, impl.MaxPrime} {
		if n := impl.PowMod(0, 0, p); n != 1 {
			t.Errorf("0^0 mod %d = %d", p, n)
		}
	}
}

func TestInverses(t *testing.T) {
	for m := 2; m < 130; m++ {
		for a := -m; a <= 2*m; a++ {
			checkInverse(t, a, m)
		}
	}
	d := dice(5)
	for _, m := range append([]int{2, 1 << 27, impl.MaxPrime}, oddModuli...) {
		for range 500 {
			checkInverse(t, int(d.next()), m)
		}
		checkInverse(t, m-1, m)
		checkInverse(t, math.MinInt, m)
		checkInverse(t, math.MaxInt, m)
	}
}

func checkInverse(t *testing.T, a int, m int) {
	t.Helper()
	b := impl.InvMod(a, m)
	if b < 0 || b >= m {
		t.Fatalf("InvMod(%d, %d) = %d lies outside", a, m, b)
	}
	least := bigMod(a, m)
	coprime := new(big.Int).GCD(nil, nil, bigOf(least), bigOf(m)).Cmp(bigOf(1)) == 0
	if coprime && least*b%m != 1 {
		t.Fatalf("InvMod(%d, %d) = %d, the product is %d", a, m, b, least*b%m)
	}
	if !coprime && b != 0 {
		t.Fatalf("InvMod(%d, %d) = %d, but there is none", a, m, b)
	}
}

func TestRootsOfSmallPrimes(t *testing.T) {
	for p, prime := range sieve(1500) {
		for n := -1; n <= 130; n++ {
			g, ok := impl.RootOf(p, n)
			want, wantOk := wantRoot(p, n)
			if g != want || ok != wantOk {
				t.Fatalf("RootOf(%d, %d) = %d, %v, want %d, %v (prime: %v)", p, n, g, ok, want, wantOk, prime)
			}
		}
	}
}

func TestRootsOfGreatPrimes(t *testing.T) {
	primes := []int{786433, 7340033, 167772161, 268369921, 268435009, lastPrime}
	for _, p := range primes {
		for n := 2; n <= 64; n *= 2 {
			g, ok := impl.RootOf(p, n)
			if (p-1)%n != 0 {
				if g != 0 || ok {
					t.Errorf("RootOf(%d, %d) = %d, %v, but %d does not divide", p, n, g, ok, n)
				}
				continue
			}
			if !ok || wantPow(g, n, p) != 1 || wantPow(g, n/2, p) == 1 {
				t.Errorf("RootOf(%d, %d) = %d, %v is no root", p, n, g, ok)
			}
			checkNoLesserRoot(t, p, n, g)
		}
	}
}

// checkNoLesserRoot looks at all roots of that order: a root's odd powers.
func checkNoLesserRoot(t *testing.T, p int, n int, g int) {
	t.Helper()
	for e := 1; e < n; e += 2 {
		if other := wantPow(g, e, p); other < g {
			t.Errorf("RootOf(%d, %d) = %d, but %d is lesser", p, n, g, other)
		}
	}
}

func TestRootOfAGreatPrimeByTryingAll(t *testing.T) {
	for _, n := range []int{32, 64} {
		want, _ := wantRoot(268369921, n)
		if g, ok := impl.RootOf(268369921, n); g != want || !ok {
			t.Errorf("RootOf(268369921, %d) = %d, %v, want %d", n, g, ok, want)
		}
	}
}

func TestPrimesBelowALimit(t *testing.T) {
	for n, want := range sieve(200000) {
		if impl.IsPrime(uint64(n)) != want {
			t.Errorf("IsPrime(%d) is not %v", n, want)
		}
	}
}

func TestPrimesOfAnySize(t *testing.T) {
	// the least numbers that pass the first witnesses one by one and yet are no primes, Carmichael's, squares, and the greatest of all
	others := []uint64{0, 1, 2047, 1373653, 25326001, 3215031751, 2152302898747, 3474749660383, 341550071728321, 3825123056546413051,
		561, 1105, 1729, 41041, 825265, 1681, 1763, 4294967297, 4294967291 * 4294967291, 4294967279 * 4294967291, math.MaxUint64, 1 << 63}
	for _, n := range others {
		if impl.IsPrime(n) {
			t.Errorf("IsPrime(%d)", n)
		}
	}
	for _, n := range []uint64{2, 3, 37, 41, lastPrime, 4294967291, 4294967311, 9223372036854775783, 9223372036854775837, 18446744073709551557} {
		if !impl.IsPrime(n) {
			t.Errorf("not IsPrime(%d)", n)
		}
	}
	d := dice(6)
	for i := range 6000 {
		n := d.next()>>uint(i%50) | 1
		if impl.IsPrime(n) != new(big.Int).SetUint64(n).ProbablyPrime(10) {
			t.Errorf("IsPrime(%d) = %v", n, impl.IsPrime(n))
		}
	}
}
