package tests

import (
	"math"
	"math/big"

	"loop.example/g00133/impl"
)

const twoTo32 = 1 << 32

// lastPrime is the greatest prime below MaxPrime.
const lastPrime = 268435399

// oddModuli: the least, the greatest, powers and neighbours of powers of two, primes and others.
var oddModuli = []int{3, 5, 7, 9, 15, 17, 31, 33, 63, 65, 97, 255, 257, 3215, 65535, 65537, 786433, 16777215, 16777217, 134217727, 134217729, 200000001, lastPrime, 268435453, impl.MaxPrime - 1}

// edgeInts lie at and beside every limit of the chapter.
var edgeInts = []int{
	math.MinInt, math.MinInt + 1, -twoTo32, -impl.MaxPrime, -97, -3, -2, -1, 0, 1, 2, 3, 4, 5, 6, 7, 8, 9, 12, 16, 17,
	31, 32, 33, 63, 64, 65, 96, 97, 98, 128, 193, 257, 65537, lastPrime - 1, lastPrime, lastPrime + 1,
	impl.MaxPrime - 1, impl.MaxPrime, impl.MaxPrime + 1, twoTo32 - 1, twoTo32, twoTo32 + 1, math.MaxInt - 1, math.MaxInt,
}

// dice is a row of numbers that look drawn, the same at each run.
type dice uint64

func (d *dice) next() uint64 {
	*d += 0x9e3779b97f4a7c15
	z := uint64(*d)
	z = (z ^ z>>30) * 0xbf58476d1ce4e5b9
	z = (z ^ z>>27) * 0x94d049bb133111eb
	return z ^ z>>31
}

func (d *dice) below(n int) int {
	return int(d.next() % uint64(n))
}

func isModulus(p int) bool {
	return p >= 2 && p <= impl.MaxPrime
}

func bigOf(n int) *big.Int {
	return big.NewInt(int64(n))
}

func intOf(b *big.Int) int {
	return int(b.Int64())
}

// bigMod is a mod m from 0 on.
func bigMod(a int, m int) int {
	return intOf(new(big.Int).Mod(bigOf(a), bigOf(m)))
}

func wantPow(a int, e int, p int) int {
	if !isModulus(p) || e < 0 {
		return 0
	}
	return intOf(new(big.Int).Exp(bigOf(bigMod(a, p)), bigOf(e), bigOf(p)))
}

func wantInv(a int, m int) int {
	if !isModulus(m) {
		return 0
	}
	b := new(big.Int).ModInverse(bigOf(bigMod(a, m)), bigOf(m))
	if b == nil {
		return 0
	}
	return intOf(b)
}

func wantBarrett(p int) (impl.Barrett, bool) {
	if !isModulus(p) || p%2 == 0 {
		return impl.Barrett{}, false
	}
	shift := 2 * bigOf(p).BitLen()
	mul := new(big.Int).Lsh(bigOf(1), uint(shift))
	return impl.Barrett{P: p, Shift: shift, Mul: intOf(mul.Quo(mul, bigOf(p)))}, true
}

func wantBarrettMul(b impl.Barrett, x int, y int) (int, bool) {
	made, ok := wantBarrett(b.P)
	if !ok || b != made || x < 0 || x >= b.P || y < 0 || y >= b.P {
		return 0, false
	}
	return x * y % b.P, true
}

func wantMont(p int) (impl.Mont, bool) {
	if !isModulus(p) || p%2 == 0 {
		return impl.Mont{}, false
	}
	inv := new(big.Int).ModInverse(bigOf(p), bigOf(twoTo32))
	two := new(big.Int).Lsh(bigOf(1), 64)
	return impl.Mont{P: p, Inv: twoTo32 - intOf(inv), Two: intOf(two.Mod(two, bigOf(p)))}, true
}

func wantMontMul(m impl.Mont, x int, y int) (int, bool) {
	made, ok := wantMont(m.P)
	if !ok || m != made || x < 0 || x >= m.P || y < 0 || y >= m.P {
		return 0, false
	}
	return x * y % m.P * wantInv(twoTo32, m.P) % m.P, true
}

func wantShoup(w int, p int) (int, bool) {
	if !isModulus(p) || w < 0 || w >= p {
		return 0, false
	}
	return (w << 32) / p, true
}

func wantShoupMul(w int, pre int, p int, x int) (int, bool) {
	made, ok := wantShoup(w, p)
	if !ok || pre != made || x < 0 || x >= twoTo32 {
		return 0, false
	}
	quotient := new(big.Int).Mul(bigOf(pre), bigOf(x))
	quotient.Rsh(quotient, 32)
	return w*x - intOf(quotient)*p, true
}

// wantRoot tries one number after the other, so it is for primes whose root is not great.
func wantRoot(p int, n int) (int, bool) {
	order := n >= 2 && n <= 64 && n&(n-1) == 0
	if !order || !isModulus(p) || !bigOf(p).ProbablyPrime(0) || (p-1)%n != 0 {
		return 0, false
	}
	if n == 2 {
		return p - 1, true
	}
	for g := 1; g < p; g++ {
		if half := powOfTwo(g, n/2, p); half != 1 && half*half%p == 1 {
			return g, true
		}
	}
	return 0, false
}

// powOfTwo is g^n mod p of an n that is a power of two.
func powOfTwo(g int, n int, p int) int {
	for ; n > 1; n /= 2 {
		g = g * g % p
	}
	return g
}

// sieve tells the primes below n.
func sieve(n int) []bool {
	prime := make([]bool, n)
	for i := 2; i < n; i++ {
		prime[i] = true
	}
	for i := 2; i*i < n; i++ {
		for k := i * i; prime[i] && k < n; k += i {
			prime[k] = false
		}
	}
	return prime
}
