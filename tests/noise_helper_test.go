package tests

import (
	"fmt"
	"math/big"
	"slices"
	"testing"

	"loop.example/g00133/impl"
)

// deepest is as far as a depth is told.
const deepest = 20

// noiseArgs hold what any function of noise is given: the params, the secret and the first cipher of these, and two bounds.
type noiseArgs struct {
	cipherArgs
	one   impl.Whole
	other impl.Whole
}

// noiseAnswer is what any function of noise answers.
type noiseAnswer struct {
	whole  impl.Whole
	number int
	ok     bool
}

func (a noiseAnswer) same(other noiseAnswer) bool {
	return sameWhole(a.whole, other.whole) && a.number == other.number && a.ok == other.ok
}

func boundTold(a impl.Whole, ok bool) noiseAnswer {
	return noiseAnswer{whole: a, ok: ok}
}

func countTold(n int, ok bool) noiseAnswer {
	return noiseAnswer{number: n, ok: ok}
}

// wantBound is a bound that is cut at q.
func wantBound(p impl.Params, b *big.Int) noiseAnswer {
	return boundTold(wholeFrom(cutAt(p, b)), true)
}

// ofNoise is a function of noise, and what the document asks of it, by great numbers, where the arguments are as said.
type ofNoise struct {
	name string
	call func(x noiseArgs) noiseAnswer
	want func(x noiseArgs) noiseAnswer
	// what it takes: params, a secret and a cipher, and how many bounds
	params, cipher bool
	bounds         int
}

func noiseFunctions() []ofNoise {
	return []ofNoise{
		{name: "NoiseOf", params: true, cipher: true, call: func(x noiseArgs) noiseAnswer { return boundTold(impl.NoiseOf(x.p, x.s, x.a)) },
			want: func(x noiseArgs) noiseAnswer { return boundTold(wholeFrom(noiseUnder(x.p, x.s, x.a)), true) }},
		{name: "NoiseLimit", params: true, call: func(x noiseArgs) noiseAnswer { return boundTold(impl.NoiseLimit(x.p)) },
			want: func(x noiseArgs) noiseAnswer { return boundTold(wholeFrom(limitOf(x.p)), true) }},
		{name: "FreshBound", params: true, call: func(x noiseArgs) noiseAnswer { return boundTold(impl.FreshBound(x.p)) },
			want: func(x noiseArgs) noiseAnswer { return wantBound(x.p, freshBound(x.p)) }},
		{name: "AddBound", bounds: 2, call: func(x noiseArgs) noiseAnswer { return boundTold(impl.AddBound(x.one, x.other)) }, want: wantAddBound},
		{name: "AddPlainBound", params: true, bounds: 1, call: func(x noiseArgs) noiseAnswer { return boundTold(impl.AddPlainBound(x.p, x.one)) },
			want: func(x noiseArgs) noiseAnswer {
				return wantBound(x.p, new(big.Int).Add(bigFrom(x.one), plainBound(x.p)))
			}},
		{name: "MulPlainBound", params: true, bounds: 1, call: func(x noiseArgs) noiseAnswer { return boundTold(impl.MulPlainBound(x.p, x.one)) },
			want: func(x noiseArgs) noiseAnswer { return wantBound(x.p, timesPlainBound(x.p, bigFrom(x.one))) }},
		{name: "MulBound", params: true, bounds: 2, call: func(x noiseArgs) noiseAnswer { return boundTold(impl.MulBound(x.p, x.one, x.other)) },
			want: func(x noiseArgs) noiseAnswer {
				return wantBound(x.p, timesBound(x.p, bigFrom(x.one), bigFrom(x.other)))
			}},
		{name: "SwitchBound", params: true, bounds: 1, call: func(x noiseArgs) noiseAnswer { return boundTold(impl.SwitchBound(x.p, x.one)) },
			want: func(x noiseArgs) noiseAnswer { return wantBound(x.p, switchBound(x.p, bigFrom(x.one))) }},
		{name: "BudgetOf", params: true, bounds: 1, call: func(x noiseArgs) noiseAnswer { return countTold(impl.BudgetOf(x.p, x.one)) },
			want: func(x noiseArgs) noiseAnswer {
				return countTold(max(0, limitOf(x.p).BitLen()-bigFrom(x.one).BitLen()), true)
			}},
		{name: "DepthOf", params: true, call: func(x noiseArgs) noiseAnswer { return countTold(impl.DepthOf(x.p)) },
			want: func(x noiseArgs) noiseAnswer { return countTold(depthOf(x.p), true) }},
	}
}

func noiseFunction(name string) ofNoise {
	for _, f := range noiseFunctions() {
		if f.name == name {
			return f
		}
	}
	panic(name)
}

// cutAt tells what is above q as q.
func cutAt(p impl.Params, b *big.Int) *big.Int {
	if q := bigProduct(p.Primes); b.Cmp(q) > 0 {
		return q
	}
	return b
}

func wantAddBound(x noiseArgs) noiseAnswer {
	sum := wholeAnswer(new(big.Int).Add(bigFrom(x.one), bigFrom(x.other)))
	return boundTold(sum.Wholes[0], sum.Ok)
}

// noiseUnder is the greatest size of T times what the cipher is under the secret, centred.
func noiseUnder(p impl.Params, s []int, c impl.Cipher) *big.Int {
	return greatestOf(bigScaled(openedNumbers(p, s, c), bigOf(p.T)), bigProduct(p.Primes))
}

// deeperBound is SwitchBound of MulBound of a bound with itself.
func deeperBound(p impl.Params, b *big.Int) *big.Int {
	return cutAt(p, switchBound(p, cutAt(p, timesBound(p, b, b))))
}

func depthOf(p impl.Params) int {
	limit, bound := limitOf(p), cutAt(p, freshBound(p))
	if bound.Cmp(limit) >= 0 {
		return 0
	}
	for depth := range deepest {
		if bound = deeperBound(p, bound); bound.Cmp(limit) >= 0 {
			return depth
		}
	}
	return deepest
}

// isFromNought asks for a good whole number that is not below 0.
func isFromNought(a impl.Whole) bool {
	return isGoodWhole(a) && !a.Neg
}

func isBoundFor(p impl.Params, a impl.Whole) bool {
	q := bigProduct(p.Primes)
	return isFromNought(a) && bigFrom(a).Cmp(new(big.Int).Mul(q, q)) <= 0
}

func (f ofNoise) isAsSaid(x noiseArgs) bool {
	for _, a := range []impl.Whole{x.one, x.other}[:f.bounds] {
		if !isFromNought(a) || f.params && !isBoundFor(x.p, a) {
			return false
		}
	}
	if f.cipher && (!areSmall(x.s, x.p.N, 1) || !isOfParts(x.p, x.a, twoOrThree)) {
		return false
	}
	// last, since primes take longest
	return !f.params || isParams(x.p)
}

// wanted is the answer that the document asks for, at any argument.
func (f ofNoise) wanted(x noiseArgs) noiseAnswer {
	if f.isAsSaid(x) {
		return f.want(x)
	}
	return noiseAnswer{}
}

// checkNoise holds one call against the second reckoning, and looks after the memory of its lists and of its answer.
func checkNoise(t *testing.T, f ofNoise, x noiseArgs) noiseAnswer {
	t.Helper()
	want, failed := f.wanted(x), t.Failed()
	lists := append([][]int{x.one.Limbs, x.other.Limbs}, x.listsOf()...)
	checkMemory(t, f.name, lists, func(laid [][]int) [][]int {
		given := noiseArgs{cipherArgs: x.withLists(laid[2:]), one: x.one, other: x.other}
		given.one.Limbs, given.other.Limbs = laid[0], laid[1]
		rows, all := given.outer()
		got := f.call(given)
		if !got.same(want) {
			t.Errorf("%s = %v, want %v", f.name, got, want)
		}
		rowsNow, allNow := given.outer()
		if !slices.EqualFunc(rowsNow, rows, sameMemory) || !slices.EqualFunc(allNow, all, samePlace) {
			t.Errorf("%s writes into a list of lists", f.name)
		}
		return [][]int{got.whole.Limbs}
	})
	// told only once: what most calls are given is long
	if t.Failed() && !failed {
		t.Errorf("%s was given %.900s", f.name, fmt.Sprintf("%+v", x))
	}
	return want
}

// checkAllOfNoise asks every function of the chapter.
func checkAllOfNoise(t *testing.T, x noiseArgs) {
	t.Helper()
	for _, f := range noiseFunctions() {
		checkNoise(t, f, x)
	}
}

// askBound makes a call of the program that must be told true, with a good whole number from 0 on.
func askBound(t *testing.T, name string, x noiseArgs) *big.Int {
	t.Helper()
	got := noiseFunction(name).call(x)
	if !got.ok || !isGoodWhole(got.whole) || got.whole.Neg {
		t.Fatalf("%s of %.900s = %v", name, fmt.Sprintf("%+v", x), got)
	}
	return bigFrom(got.whole)
}

// askCount makes a call of the program that must be told true, with a number.
func askCount(t *testing.T, name string, x noiseArgs) int {
	t.Helper()
	got := noiseFunction(name).call(x)
	if !got.ok || got.number < 0 {
		t.Fatalf("%s of %.900s = %v", name, fmt.Sprintf("%+v", x), got)
	}
	return got.number
}

func askNoiseOf(t *testing.T, p impl.Params, s []int, c impl.Cipher) *big.Int {
	t.Helper()
	return askBound(t, "NoiseOf", noiseArgs{cipherArgs: cipherArgs{p: p, s: s, a: c}})
}

// ofParams is what a function is given that takes params and bounds.
func ofParams(p impl.Params, bounds ...*big.Int) noiseArgs {
	x := noiseArgs{cipherArgs: cipherArgs{p: p}}
	for i, b := range bounds {
		*[]*impl.Whole{&x.one, &x.other}[i] = wholeFrom(b)
	}
	return x
}

// lastWhere is the greatest number from 0 up to most for which it holds, where it holds below any for which it holds; -1 where there is none.
func lastWhere(most *big.Int, holds func(b *big.Int) bool) *big.Int {
	low, high := bigOf(-1), new(big.Int).Set(most)
	for low.Cmp(high) < 0 {
		middle := new(big.Int).Add(low, high)
		middle.Rsh(middle.Add(middle, bigOf(1)), 1)
		if holds(middle) {
			low = middle
		} else {
			high = middle.Sub(middle, bigOf(1))
		}
	}
	return low
}

// uncut are the bounds that the chapter's words reckon, of one bound, ahead of any cut.
func uncut(p impl.Params) []func(b *big.Int) *big.Int {
	return []func(b *big.Int) *big.Int{
		func(b *big.Int) *big.Int { return new(big.Int).Add(b, plainBound(p)) },
		func(b *big.Int) *big.Int { return timesPlainBound(p, b) },
		func(b *big.Int) *big.Int { return switchBound(p, b) },
		func(b *big.Int) *big.Int { return timesBound(p, b, b) },
		func(b *big.Int) *big.Int { return timesBound(p, b, new(big.Int)) },
	}
}

// edgeBounds: 0, the least ones, at and beside each limb, the fresh bound, the limit, half of q, q and q squared, and where an outcome comes to q.
func edgeBounds(p impl.Params) []*big.Int {
	q := bigProduct(p.Primes)
	square := new(big.Int).Mul(q, q)
	near := []*big.Int{bigOf(0), bigOf(1), bigOf(impl.Limb), powerOfTwo(56), powerOfTwo(112), plainBound(p), freshBound(p), limitOf(p), new(big.Int).Rsh(q, 1), q, new(big.Int).Lsh(q, 1), square}
	for _, reckon := range uncut(p) {
		near = append(near, lastWhere(q, func(b *big.Int) bool { return reckon(b).Cmp(q) <= 0 }))
	}
	var edges []*big.Int
	for _, b := range near {
		for step := -1; step <= 1; step++ {
			edge := new(big.Int).Add(b, bigOf(step))
			if edge.Sign() >= 0 && edge.Cmp(square) <= 0 {
				edges = append(edges, edge)
			}
		}
	}
	return edges
}

// wrongBounds are none for these params: below 0, above q squared, or no good whole numbers.
func wrongBounds(p impl.Params) []impl.Whole {
	square := new(big.Int).Mul(bigProduct(p.Primes), bigProduct(p.Primes))
	wrong := wrongWholes()
	for _, b := range append(edgeBounds(p), powerOfTwo(63), new(big.Int).Sub(powerOfTwo(63), bigOf(1)), greatest()) {
		if b.Sign() > 0 {
			wrong = append(wrong, opposite(wholeFrom(b)))
		}
	}
	for _, more := range []*big.Int{bigOf(1), bigOf(2), bigOf(impl.Limb), square} {
		wrong = append(wrong, wholeFrom(new(big.Int).Add(square, more)))
	}
	return append(wrong, wholeFrom(new(big.Int).Mul(square, square)), wholeFrom(greatest()))
}

// narrowParams are those in which there is hardly room or none: one small prime and many a T, so that T r is beyond q, near it, or far below.
func narrowParams() []impl.Params {
	var all []impl.Params
	for _, n := range ringSizes {
		for _, prime := range fittingPrimes(n, 4, 1) {
			for T := 2; T < prime; T++ {
				if T < 5 || T > prime-4 || T%(1+prime/20) == 0 {
					all = append(all, impl.Params{N: n, T: T, Noise: 1 + 15*(T%2), Primes: []int{prime}})
				}
			}
		}
		two := fittingPrimes(n, 2, 1)
		for T := 2; T < two[0]; T += 1 + two[0]/10 {
			all = append(all, impl.Params{N: n, T: T, Noise: 1, Primes: two})
		}
		for _, prime := range []int{primeFor(n, 640*n+1, 1), 65537} {
			for _, T := range []int{2, 3, prime / 2, prime - 2, prime - 1} {
				all = append(all, impl.Params{N: n, T: T, Noise: 2, Primes: []int{prime}})
			}
		}
	}
	return all
}

// noisyParams are all of these, and those of the chapters ahead.
func noisyParams() []impl.Params {
	return slices.Concat(narrowParams(), goodParams(), roomyParams())
}

// numbersOfNoise are the numbers of which T times is this, modulo q.
func numbersOfNoise(p impl.Params, noise []*big.Int) []*big.Int {
	q := bigProduct(p.Primes)
	return bigScaled(noise, new(big.Int).ModInverse(bigOf(p.T), q))
}

// cipherOfNoise has just this noise, under any secret.
func cipherOfNoise(p impl.Params, noise []*big.Int) impl.Cipher {
	return cipherMeaning(p, numbersOfNoise(p, noise), noughts(p.N))
}
