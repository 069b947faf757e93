package tests

import (
	"fmt"
	"math"
	"math/big"
	"math/cmplx"
	"slices"
	"testing"

	"loop.example/g00133/impl"
)

// ringSizes are all that there are.
var ringSizes = []int{2, 4, 8, impl.MaxN}

// wantBack moves bit after bit to the place that is as far from the other end.
func wantBack(k int, bits int) int {
	if bits < 0 || bits > 10 || k < 0 || k >= 1<<bits {
		return 0
	}
	back := 0
	for place := range bits {
		back |= k >> place & 1 << (bits - 1 - place)
	}
	return back
}

func bitsOfSize(n int) int {
	return slices.Index(ringSizes, n) + 1
}

// wantRing finds all roots of order 2 N by square roots, from -1 on, and takes the least.
func wantRing(p int, n int) (impl.Ring, bool) {
	if !slices.Contains(ringSizes, n) || !isModulus(p) || !bigOf(p).ProbablyPrime(0) || (p-1)%(2*n) != 0 {
		return impl.Ring{}, false
	}
	roots := []int{p - 1}
	for range bitsOfSize(n) {
		var next []int
		for _, square := range roots {
			root := intOf(new(big.Int).ModSqrt(bigOf(square), bigOf(p)))
			next = append(next, root, p-root)
		}
		roots = next
	}
	return impl.Ring{P: p, N: n, Root: slices.Min(roots)}, true
}

// primeFor is the first prime that fits N, from p on, by steps of 2 N up or down.
func primeFor(n int, p int, step int) int {
	for ; !bigOf(p).ProbablyPrime(0); p += step * 2 * n {
	}
	return p
}

// goodRings: of each N that of the least prime, of the next one, of one amidst, and of the greatest.
func goodRings(t *testing.T) []impl.Ring {
	t.Helper()
	var rings []impl.Ring
	for _, n := range ringSizes {
		least := primeFor(n, 2*n+1, 1)
		for _, p := range []int{least, primeFor(n, least+2*n, 1), 786433, primeFor(n, impl.MaxPrime-2*n+1, -1)} {
			r, ok := wantRing(p, n)
			if !ok {
				t.Fatal("no ring", p, n)
			}
			rings = append(rings, r)
		}
	}
	return rings
}

// wrongRings are beside a good one, each for another cause.
func wrongRings(r impl.Ring) []impl.Ring {
	wrong := []impl.Ring{{}, {P: r.P, N: r.N}, {P: r.P, Root: r.Root}, {N: r.N, Root: r.Root}}
	powers := []int{r.Root * r.Root % r.P, r.P - r.Root, intOf(new(big.Int).ModInverse(bigOf(r.Root), bigOf(r.P)))}
	for _, root := range append(powers, r.Root-1, r.Root+1, r.Root+r.P, r.Root-r.P, -r.Root, 1, r.P-1, r.P, math.MinInt, math.MaxInt) {
		wrong = append(wrong, impl.Ring{P: r.P, N: r.N, Root: root})
	}
	for _, p := range []int{-r.P, r.P - 1, r.P + 1, 2 * r.P, r.P * r.P, r.P + 2*r.N, primeFor(r.N, r.P+2*r.N, 1), primeFor(r.N, impl.MaxPrime+1, 1), 0, 1, 2, math.MinInt, math.MaxInt} {
		wrong = append(wrong, impl.Ring{P: p, N: r.N, Root: r.Root})
	}
	for _, n := range []int{-r.N, r.N / 2, r.N - 1, r.N + 1, 2 * r.N, 1, 0, 3, 32, math.MinInt, math.MaxInt, 1 << 62, 1 << 32} {
		wrong = append(wrong, impl.Ring{P: r.P, N: n, Root: r.Root})
	}
	return wrong
}

func isPolynomial(r impl.Ring, a []int) bool {
	for _, x := range a {
		if x < 0 || x >= r.P {
			return false
		}
	}
	return len(a) == r.N
}

func isTurn(g int, n int) bool {
	return g >= 1 && g <= 2*n-1 && g&1 == 1
}

func (d *dice) polynomial(r impl.Ring) []int {
	a := make([]int, r.N)
	for i := range a {
		a[i] = d.below(r.P)
	}
	return a
}

// edgePolynomials: the least and the greatest numbers in all places, and in each place alone.
func edgePolynomials(r impl.Ring) [][]int {
	edges := [][]int{make([]int, r.N), slices.Repeat([]int{1}, r.N), slices.Repeat([]int{r.P - 1}, r.N)}
	for i := range r.N {
		for _, x := range []int{1, r.P - 1} {
			alone := make([]int, r.N)
			alone[i] = x
			lacking := slices.Repeat([]int{r.P - 1}, r.N)
			lacking[i] = 0
			edges = append(edges, alone, lacking)
		}
	}
	return edges
}

// wrongLists are no polynomials of the ring: by their length, or by a number in each place in turn.
func wrongLists(r impl.Ring) [][]int {
	lists := [][]int{nil, {}, make([]int, r.N-1), make([]int, r.N+1), make([]int, 2*r.N), make([]int, 1000)}
	for i := range r.N {
		for _, x := range []int{-1, r.P, r.P + 1, -r.P, math.MinInt, math.MaxInt} {
			a := slices.Repeat([]int{1}, r.N)
			a[i] = x
			lists = append(lists, a)
		}
	}
	return lists
}

// pointAt is the point of place k, by its exponent.
func pointAt(r impl.Ring, k int) int {
	return wantPow(r.Root, 2*wantBack(k, bitsOfSize(r.N))+1, r.P)
}

func valueAt(r impl.Ring, a []int, point int) int {
	value := 0
	for _, x := range slices.Backward(a) {
		value = (value*point + x) % r.P
	}
	return value
}

func wantForward(x ringArgs) []int {
	f := make([]int, x.ring.N)
	for k := range f {
		f[k] = valueAt(x.ring, x.a, pointAt(x.ring, k))
	}
	return f
}

// wantInverse: number i is the sum of all values, each times its point to the -i, divided by N.
func wantInverse(x ringArgs) []int {
	r := x.ring
	a := make([]int, r.N)
	for i := range a {
		for k, value := range x.a {
			a[i] += value * wantInv(wantPow(pointAt(r, k), i, r.P), r.P) % r.P
		}
		a[i] = a[i] % r.P * wantInv(r.N, r.P) % r.P
	}
	return a
}

// wantMulRing multiplies each with each; no sum here has more than 60 bits.
func wantMulRing(x ringArgs) []int {
	r := x.ring
	product := make([]int, r.N)
	for i, a := range x.a {
		for k, b := range x.b {
			if i+k < r.N {
				product[i+k] += a * b
			} else {
				product[i+k-r.N] -= a * b
			}
		}
	}
	for i := range product {
		product[i] = bigMod(product[i], r.P)
	}
	return product
}

func wantMulEach(x ringArgs) []int {
	each := make([]int, x.ring.N)
	for k := range each {
		each[k] = x.a[k] * x.b[k] % x.ring.P
	}
	return each
}

// wantTurnRing multiplies by X, g times for each number, and minds the sign at each way round.
func wantTurnRing(x ringArgs) []int {
	r := x.ring
	turned, power := make([]int, r.N), append([]int{1}, make([]int, r.N-1)...)
	for _, number := range x.a {
		for i := range turned {
			turned[i] = (turned[i] + number*power[i]) % r.P
		}
		for range x.g {
			last := power[r.N-1]
			power = append([]int{(r.P - last) % r.P}, power[:r.N-1]...)
		}
	}
	return turned
}

// complexPoint: the points as complex numbers, where e^(i pi / N) is the root of order 2 N.
func complexPoint(k int, n int) complex128 {
	return cmplx.Rect(1, math.Pi*float64(2*wantBack(k, bitsOfSize(n))+1)/float64(n))
}

// wantTurnTable looks among the complex points for the one that is the g-th power.
func wantTurnTable(n int, g int) ([]int, bool) {
	if !slices.Contains(ringSizes, n) || !isTurn(g, n) {
		return nil, false
	}
	table := make([]int, n)
	for k := range table {
		power := cmplx.Pow(complexPoint(k, n), complex(float64(g), 0))
		for place := range n {
			if cmplx.Abs(complexPoint(place, n)-power) < 1e-9 {
				table[k] = place
			}
		}
	}
	return table, true
}

// ringArgs hold what any function of a ring is given; each takes what it needs.
type ringArgs struct {
	ring impl.Ring
	a    []int
	b    []int
	g    int
}

// ofRing is a function of a ring, and what the document asks of it, by other means, where the arguments are as said.
type ofRing struct {
	name string
	call func(x ringArgs) ([]int, bool)
	want func(x ringArgs) []int
	// two: it takes b; turn: it takes g
	two  bool
	turn bool
}

var ringFunctions = []ofRing{
	{name: "Forward", want: wantForward, call: func(x ringArgs) ([]int, bool) { return impl.Forward(x.ring, x.a) }},
	{name: "Inverse", want: wantInverse, call: func(x ringArgs) ([]int, bool) { return impl.Inverse(x.ring, x.a) }},
	{name: "MulRing", want: wantMulRing, two: true, call: func(x ringArgs) ([]int, bool) { return impl.MulRing(x.ring, x.a, x.b) }},
	{name: "MulEach", want: wantMulEach, two: true, call: func(x ringArgs) ([]int, bool) { return impl.MulEach(x.ring, x.a, x.b) }},
	{name: "TurnRing", want: wantTurnRing, turn: true, call: func(x ringArgs) ([]int, bool) { return impl.TurnRing(x.ring, x.a, x.g) }},
}

func (f ofRing) isAsSaid(x ringArgs) bool {
	made, ok := wantRing(x.ring.P, x.ring.N)
	if !ok || x.ring != made || !isPolynomial(x.ring, x.a) {
		return false
	}
	return (!f.two || isPolynomial(x.ring, x.b)) && (!f.turn || isTurn(x.g, x.ring.N))
}

// checkRing holds one call against the second reckoning, and looks after its lists' memory.
func checkRing(t *testing.T, f ofRing, x ringArgs) {
	t.Helper()
	var want []int
	ok := f.isAsSaid(x)
	if ok {
		want = f.want(x)
	}
	call := fmt.Sprintf("%s of %+v", f.name, x)
	checkMemory(t, call, [][]int{x.a, x.b}, func(laid [][]int) [][]int {
		got, told := f.call(ringArgs{ring: x.ring, a: laid[0], b: laid[1], g: x.g})
		if told != ok || !slices.Equal(got, want) {
			t.Errorf("%s = %v, %v, want %v, %v", call, got, told, want, ok)
		}
		return [][]int{got}
	})
}

// ask makes a call of the program that must be told true.
func ask(t *testing.T, name string, x ringArgs) []int {
	t.Helper()
	i := slices.IndexFunc(ringFunctions, func(f ofRing) bool { return f.name == name })
	got, ok := ringFunctions[i].call(x)
	if !ok || len(got) != x.ring.N {
		t.Fatalf("%s of %+v = %v, %v", name, x, got, ok)
	}
	return got
}
