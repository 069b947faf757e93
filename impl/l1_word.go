package impl

import "math/bits"

const MaxPrime = 268435456

type Barrett struct {
	P     int
	Shift int
	Mul   int
}

type Mont struct {
	P   int
	Inv int
	Two int
}

const wordBits = 32
const wordSize = 1 << wordBits
const maxRootOrder = 64

// smallPrimes part off most numbers at once; together they are also witnesses enough for every number of 64 bits.
var smallPrimes = [12]uint64{2, 3, 5, 7, 11, 13, 17, 19, 23, 29, 31, 37}

// multiplier lets powers and single products be reckoned without asking by which way a product is found.
type multiplier interface {
	product(x uint64, y uint64) uint64
}

// remainderWay is the modulus itself; a product in two words leaves room for any modulus of 64 bits.
type remainderWay uint64

func (m remainderWay) product(x uint64, y uint64) uint64 {
	high, low := bits.Mul64(x, y)
	return bits.Rem64(high, low, uint64(m))
}

type barrettWay Barrett

func (b barrettWay) product(x uint64, y uint64) uint64 {
	p, shift := uint64(b.P), uint(b.Shift)
	z := x * y
	// z Mul may have 85 bits: it needs both words
	high, low := bits.Mul64(z, uint64(b.Mul))
	quotient := high<<(64-shift) | low>>shift
	return lessOnce(z-quotient*p, p)
}

type montWay Mont

func (m montWay) product(x uint64, y uint64) uint64 {
	p := uint64(m.P)
	z := x * y
	// fill times p takes away the low word, and changes nothing modulo p
	fill := z * uint64(m.Inv) % wordSize
	return lessOnce((z+fill*p)/wordSize, p)
}

// shoupWay belongs to one left factor w alone: pre is made of it.
type shoupWay struct {
	pre uint64
	p   uint64
}

func (s shoupWay) product(w uint64, x uint64) uint64 {
	quotient := s.pre * x >> wordBits
	return w*x - quotient*s.p
}

func lessOnce(x uint64, p uint64) uint64 {
	if x >= p {
		return x - p
	}
	return x
}

func productBy(way multiplier, x int, y int) int {
	return int(way.product(uint64(x), uint64(y)))
}

// powerBy asks for a way in which 1 changes nothing, so not for montWay.
func powerBy(way multiplier, a uint64, e uint64) uint64 {
	result := uint64(1)
	for e > 0 {
		if e%2 == 1 {
			result = way.product(result, a)
		}
		a = way.product(a, a)
		e /= 2
	}
	return result
}

func isModulus(p int) bool {
	return p >= 2 && p <= MaxPrime
}

func isOddModulus(p int) bool {
	return isModulus(p) && p%2 == 1
}

func isPrimeModulus(p int) bool {
	return isModulus(p) && IsPrime(uint64(p))
}

func isResidue(x int, p int) bool {
	return x >= 0 && x < p
}

func residueOf(a int, p int) int {
	rest := a % p
	if rest < 0 {
		return rest + p
	}
	return rest
}

func IsPrime(n uint64) bool {
	if n < 2 {
		return false
	}
	for _, p := range smallPrimes {
		if n%p == 0 {
			return n == p
		}
	}
	for _, witness := range smallPrimes {
		if !passesWitness(n, witness) {
			return false
		}
	}
	return true
}

// passesWitness asks of an odd n whether the witness leaves it open that n is a prime (Miller and Rabin).
func passesWitness(n uint64, witness uint64) bool {
	way := remainderWay(n)
	twos := bits.TrailingZeros64(n - 1)
	x := powerBy(way, witness, (n-1)>>uint(twos))
	if x == 1 {
		return true
	}
	for range twos {
		if x == n-1 {
			return true
		}
		x = way.product(x, x)
	}
	return false
}

func PowMod(a int, e int, p int) int {
	if !isModulus(p) || e < 0 {
		return 0
	}
	return int(powerBy(remainderWay(p), uint64(residueOf(a, p)), uint64(e)))
}

func InvMod(a int, m int) int {
	if !isModulus(m) {
		return 0
	}
	// last and rest stay multiples of a modulo m: lastTimes a and restTimes a
	last, rest := m, residueOf(a, m)
	lastTimes, restTimes := 0, 1
	for rest != 0 {
		quotient := last / rest
		last, rest = rest, last-quotient*rest
		lastTimes, restTimes = restTimes, lastTimes-quotient*restTimes
	}
	if last != 1 {
		return 0
	}
	return residueOf(lastTimes, m)
}

func BarrettOf(p int) (Barrett, bool) {
	if !isOddModulus(p) {
		return Barrett{}, false
	}
	shift := 2 * bits.Len64(uint64(p))
	return Barrett{P: p, Shift: shift, Mul: (1 << uint(shift)) / p}, true
}

func BarrettMul(b Barrett, x int, y int) (int, bool) {
	made, ok := BarrettOf(b.P)
	if !ok || b != made || !isResidue(x, b.P) || !isResidue(y, b.P) {
		return 0, false
	}
	return productBy(barrettWay(b), x, y), true
}

func MontOf(p int) (Mont, bool) {
	if !isOddModulus(p) {
		return Mont{}, false
	}
	rest := wordSize % p
	return Mont{P: p, Inv: negInverseOfOdd(p), Two: rest * rest % p}, true
}

// negInverseOfOdd finds -1/p modulo 2^32: p is its own inverse to 3 bits, and each step doubles the bits that are right.
func negInverseOfOdd(p int) int {
	odd := uint32(p)
	inverse := odd
	for range 4 {
		inverse *= 2 - odd*inverse
	}
	return int(-inverse)
}

func MontMul(m Mont, x int, y int) (int, bool) {
	made, ok := MontOf(m.P)
	if !ok || m != made || !isResidue(x, m.P) || !isResidue(y, m.P) {
		return 0, false
	}
	return productBy(montWay(m), x, y), true
}

func ShoupOf(w int, p int) (int, bool) {
	if !isModulus(p) || !isResidue(w, p) {
		return 0, false
	}
	return w * wordSize / p, true
}

func ShoupMul(w int, pre int, p int, x int) (int, bool) {
	made, ok := ShoupOf(w, p)
	if !ok || pre != made || !isResidue(x, wordSize) {
		return 0, false
	}
	return productBy(shoupWay{pre: uint64(pre), p: uint64(p)}, w, x), true
}

func RootOf(p int, n int) (int, bool) {
	if !isRootOrder(n) || !isPrimeModulus(p) || (p-1)%n != 0 {
		return 0, false
	}
	return leastRoot(someRoot(p, n), p, n), true
}

func isRootOrder(n int) bool {
	return n >= 2 && n <= maxRootOrder && n&(n-1) == 0
}

// someRoot takes a number that is no square: only its power has the full order n.
func someRoot(p int, n int) int {
	a := 2
	for PowMod(a, (p-1)/2, p) == 1 {
		a++
	}
	return PowMod(a, (p-1)/n, p)
}

// leastRoot goes through the odd powers of one root, which are all the roots of its order.
func leastRoot(root int, p int, n int) int {
	square := root * root % p
	least := root
	for range n/2 - 1 {
		root = root * square % p
		least = min(least, root)
	}
	return least
}
