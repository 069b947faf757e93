package tests

import (
	"math"
	"math/big"
	"slices"
	"testing"

	"loop.example/g00133/impl"
)

// Promise 14: every function of the chapter, at every edge and at wrong inputs, in every place.

// goodNoiseArgs are as said for every function of the chapter.
func goodNoiseArgs(p impl.Params, parts int) noiseArgs {
	q := bigProduct(p.Primes)
	x := noiseArgs{cipherArgs: cipherArgs{p: p}, one: wholeFrom(new(big.Int).Rsh(q, 2)), other: wholeFrom(new(big.Int).Mul(q, q))}
	d := dice(1150 + p.N)
	x.s, x.a = d.small(p.N, 1), d.cipher(p, parts)
	return x
}

// filledNoiseArgs are as long as params ask for that may be none; their bounds are 0, which any params would take.
func filledNoiseArgs(p impl.Params, parts int) noiseArgs {
	filled := filledCipherArgs(p, parts)
	return noiseArgs{cipherArgs: cipherArgs{p: p, s: filled.s, a: filled.a}}
}

// refusedNoise asks for the zero answer, whatever the second reckoning says.
func refusedNoise(t *testing.T, f ofNoise, x noiseArgs) {
	t.Helper()
	mustAnswer(t, f.name, func() {
		if got := f.call(x); !got.same(noiseAnswer{}) {
			t.Errorf("%s of %.300v = %v", f.name, x, got)
		}
	})
	checkNoise(t, f, x)
}

// refusedNoises changes what is as said in one way, and asks all functions for the zero answer that take what was changed.
func refusedNoises(t *testing.T, p impl.Params, takes func(f ofNoise) bool, change func(x *noiseArgs)) {
	t.Helper()
	for _, f := range noiseFunctions() {
		for _, parts := range twoOrThree {
			if takes(f) && (f.cipher || parts == 2) {
				x := goodNoiseArgs(p, parts)
				change(&x)
				refusedNoise(t, f, x)
			}
		}
	}
}

// refusedNoiseParams asks all functions that take params for the zero answer, with lists as long as these ask for.
func refusedNoiseParams(t *testing.T, p impl.Params) {
	t.Helper()
	for _, f := range noiseFunctions() {
		if f.params {
			refusedNoise(t, f, filledNoiseArgs(p, 2))
		}
	}
}

func noiseOfParams(f ofNoise) bool { return f.params }
func noiseOfCipher(f ofNoise) bool { return f.cipher }
func boundOfParams(f ofNoise) bool { return f.bounds > 0 && f.params }
func otherOfParams(f ofNoise) bool { return f.bounds > 1 && f.params }

func TestNoiseOfEveryGoodParams(t *testing.T) {
	for _, p := range noisyParams() {
		for _, parts := range twoOrThree {
			x := goodNoiseArgs(p, parts)
			for _, f := range noiseFunctions() {
				if want := checkNoise(t, f, x); !want.ok {
					t.Errorf("%s of %v is refused", f.name, p)
				}
			}
		}
	}
}

// Secrets, Parts and bounds at their edges, all at once.
func TestNoiseAtTheEdges(t *testing.T) {
	for _, p := range fewParams() {
		parts, secrets, edges := edgeParts(p), edgeSmall(p.N, 1), edgeBounds(p)
		for i := range parts {
			for count := 2; count <= 3; count++ {
				x := goodNoiseArgs(p, count)
				x.s = secrets[i%len(secrets)]
				for k := range x.a.Parts {
					x.a.Parts[k] = parts[(i+5*k)%len(parts)]
				}
				x.one, x.other = wholeFrom(edges[i%len(edges)]), wholeFrom(edges[(3*i+1)%len(edges)])
				checkAllOfNoise(t, x)
			}
		}
	}
}

func TestNoiseUnderEverySecret(t *testing.T) {
	for _, p := range []impl.Params{{N: 2, T: 4, Noise: 1, Primes: []int{5}}, {N: 4, T: 3, Noise: 2, Primes: []int{17, 41}}} {
		s := slices.Repeat([]int{-1}, p.N)
		for more := true; more; {
			x := goodNoiseArgs(p, 3)
			x.s = slices.Clone(s)
			checkNoise(t, noiseFunction("NoiseOf"), x)
			more = false
			for i := range s {
				if s[i]++; s[i] < 2 {
					more = true
					break
				}
				s[i] = -1
			}
		}
	}
}

// Noise from 1 to MaxNoise, and no other: 0 is none.
func TestNoiseThatParamsMayHave(t *testing.T) {
	for _, p := range fewParams() {
		noises := append([]int{-16, 17, 18, 32, 1 << 32, 1<<32 + 1}, edgeInts...)
		for b := range 17 {
			noises = append(noises, b)
		}
		for _, b := range noises {
			other := p
			other.Noise = b
			if b < 1 || b > 16 {
				refusedNoises(t, p, noiseOfParams, func(x *noiseArgs) { x.p = other })
				refusedNoiseParams(t, other)
				continue
			}
			for _, f := range noiseFunctions() {
				if want := checkNoise(t, f, goodNoiseArgs(other, 2)); !want.ok {
					t.Errorf("%s of %v is refused", f.name, other)
				}
			}
		}
	}
}

// T from 2 to 65536 or to one below the least prime.
func TestTThatParamsOfNoiseMayHave(t *testing.T) {
	for _, p := range fewParams() {
		least := slices.Min(p.Primes)
		for _, T := range append([]int{-2, -1, 0, 1, 2, 3, least / 2, least - 1, least, least + 1, greatestT - 1, greatestT, greatestT + 1, greatestT + 2, 2 * greatestT, 1<<32 + 2}, edgeInts...) {
			other := p
			other.T = T
			if T < 2 || T >= least || T > 65536 {
				refusedNoises(t, p, noiseOfParams, func(x *noiseArgs) { x.p = other })
				refusedNoiseParams(t, other)
				continue
			}
			for _, f := range noiseFunctions() {
				if want := checkNoise(t, f, goodNoiseArgs(other, 2)); !want.ok {
					t.Errorf("%s of %v is refused", f.name, other)
				}
			}
		}
	}
}

func TestWrongSizesOfNoise(t *testing.T) {
	for _, p := range fewParams() {
		for _, n := range wrongSizes() {
			other := p
			other.N = n
			refusedNoises(t, p, noiseOfParams, func(x *noiseArgs) { x.p = other })
			refusedNoiseParams(t, other)
		}
	}
}

// A good N, and primes that are none, are alike, are too many, or fit another N.
func TestWrongPrimesOfNoise(t *testing.T) {
	for _, p := range fewParams() {
		good := p.Primes
		wrong := append(wrongBases(good), slices.Concat(good, fittingPrimes(p.N, 5, -1))[:5], fittingPrimes(p.N, 5, 1), fittingPrimes(p.N, impl.MaxPrimes, -1))
		for i := range good {
			for _, prime := range []int{2, 3, 7, 268435399, primeFor(p.N, impl.MaxPrime+1, 1), 2*p.N*p.N + 1} {
				l := slices.Clone(good)
				l[i] = prime
				wrong = append(wrong, l)
			}
		}
		for _, l := range wrong {
			other := p
			other.Primes = l
			if !isParams(other) {
				refusedNoiseParams(t, other)
			}
			for _, f := range noiseFunctions() {
				checkNoise(t, f, filledNoiseArgs(other, 3))
			}
		}
	}
}

func TestHowManyPrimesParamsOfNoiseMayHave(t *testing.T) {
	for _, n := range ringSizes {
		for count := range 9 {
			for _, step := range []int{1, -1} {
				p := impl.Params{N: n, T: 2, Noise: 2, Primes: fittingPrimes(n, count, step)}
				if count < 1 || count > 4 {
					refusedNoiseParams(t, p)
				} else {
					checkAllOfNoise(t, goodNoiseArgs(p, 2))
				}
			}
		}
	}
}

func TestWrongSecretsOfNoise(t *testing.T) {
	for _, p := range fewParams() {
		for _, s := range wrongSmall(p.N, 1) {
			refusedNoises(t, p, noiseOfCipher, func(x *noiseArgs) { x.s = s })
		}
	}
}

// Two or three Parts, and no other number of them.
func TestHowManyPartsNoiseTakes(t *testing.T) {
	d := dice(1151)
	for _, p := range fewParams() {
		for _, count := range []int{0, 1, 2, 3, 4, 5, 6, 100} {
			c := d.cipher(p, count)
			if count != 2 && count != 3 {
				refusedNoises(t, p, noiseOfCipher, func(x *noiseArgs) { x.a = c })
				continue
			}
			x := goodNoiseArgs(p, 2)
			x.a = c
			if want := checkNoise(t, noiseFunction("NoiseOf"), x); !want.ok {
				t.Errorf("%v: %d Parts are refused", p, count)
			}
		}
		refusedNoises(t, p, noiseOfCipher, func(x *noiseArgs) { x.a.Parts = make([][][]int, len(x.a.Parts)) })
	}
}

// Rows that are not good, in each Part.
func TestWrongRowsOfNoise(t *testing.T) {
	for _, p := range fewParams() {
		for i, wrong := range wrongRows(spaceOf(p), false) {
			refusedNoises(t, p, noiseOfCipher, func(x *noiseArgs) { x.a.Parts[i%len(x.a.Parts)] = wrong.Rows })
		}
		for _, wrong := range fewWrongRows(p) {
			for place := range 3 {
				refusedNoises(t, p, noiseOfCipher, func(x *noiseArgs) { x.a.Parts[min(place, len(x.a.Parts)-1)] = wrong })
			}
		}
	}
	for _, n := range ringSizes {
		small, great := fittingPrimes(n, 1, 1)[0], fittingPrimes(n, 1, -1)[0]
		p := impl.Params{N: n, T: 2, Noise: 1, Primes: []int{small, great}}
		refusedNoises(t, p, noiseOfCipher, func(x *noiseArgs) { x.p.Primes = []int{great, small} })
	}
}

// In either place: below 0, above q squared, or no good whole numbers.
func TestWrongBounds(t *testing.T) {
	for _, p := range slices.Concat(fewParams(), narrowParams()[:10]) {
		for _, wrong := range wrongBounds(p) {
			refusedNoises(t, p, boundOfParams, func(x *noiseArgs) { x.one = wrong })
			refusedNoises(t, p, otherOfParams, func(x *noiseArgs) { x.other = wrong })
		}
	}
}

// q squared is a bound, and one more is none; q and one more are, in either place.
func TestHowGreatABoundMayBe(t *testing.T) {
	for _, p := range noisyParams() {
		q := bigProduct(p.Primes)
		square := new(big.Int).Mul(q, q)
		for _, f := range noiseFunctions() {
			if !boundOfParams(f) {
				continue
			}
			for near := -2; near <= 2; near++ {
				for _, b := range []*big.Int{q, square} {
					bound := new(big.Int).Add(b, bigOf(near))
					for _, x := range []noiseArgs{ofParams(p, bound, bigOf(1)), ofParams(p, bigOf(1), bound), ofParams(p, bound, bound)} {
						got, want := f.call(x), f.wanted(x)
						told := bigFrom(x.one).Cmp(square) <= 0 && (f.bounds < 2 || bigFrom(x.other).Cmp(square) <= 0)
						if got.ok != told || !got.same(want) {
							t.Errorf("%v: %s of %v = %v, want %v", p, f.name, x, got, want)
						}
					}
				}
			}
		}
	}
}

// AddBound takes any whole numbers from 0 on, and none below 0 or that are not good, in either place.
func TestAddBoundAnswersAtAnyArgument(t *testing.T) {
	add := noiseFunction("AddBound")
	all := append(edgeWholes(), wrongWholes()...)
	for _, a := range all {
		for _, b := range all {
			x := noiseArgs{one: a, other: b}
			checkNoise(t, add, x)
			if a.Neg || b.Neg || !isGoodWhole(a) || !isGoodWhole(b) {
				if got := add.call(x); !got.same(noiseAnswer{}) {
					t.Errorf("AddBound of %v and %v = %v", a, b, got)
				}
			}
		}
	}
}

// Every whole number there is to try as a bound, beside good params and such that are none.
func TestBoundsAnswerAtAnyWhole(t *testing.T) {
	params := []impl.Params{{}, {N: 2, T: 2, Noise: 1}, {N: 2, T: 2, Noise: 1, Primes: []int{4}}, {N: 2, T: 4, Noise: 16, Primes: []int{5}}, fewParams()[2], fewParams()[len(fewParams())-2]}
	for _, p := range params {
		for _, a := range append(edgeWholes(), wrongWholes()...) {
			for _, f := range noiseFunctions() {
				checkNoise(t, f, noiseArgs{cipherArgs: cipherArgs{p: p}, one: a, other: impl.WholeOf(3)})
				checkNoise(t, f, noiseArgs{cipherArgs: cipherArgs{p: p}, one: impl.WholeOf(3), other: a})
			}
		}
	}
}

// All numbers of params at the edges of int, at once.
func TestNoiseAtAnyNumbers(t *testing.T) {
	few := []int{math.MinInt, math.MinInt + 1, -1, 0, 1, 2, 3, 16, 17, 32, 97, 65536, 65537, impl.MaxPrime, twoTo32, 1 << 62, math.MaxInt}
	for _, n := range few {
		for _, T := range few {
			for i, noise := range few {
				p := impl.Params{N: n, T: T, Noise: noise, Primes: []int{few[(i+10)%len(few)], 97}}
				for _, f := range noiseFunctions() {
					x := filledNoiseArgs(p, 2)
					if got := f.call(x); !got.same(f.wanted(x)) {
						t.Errorf("%s of %v = %v", f.name, p, got)
					}
				}
			}
		}
	}
}

func TestZeroAnswersOfNoise(t *testing.T) {
	for _, f := range noiseFunctions() {
		if f.params {
			refusedNoise(t, f, noiseArgs{})
			refusedNoise(t, f, noiseArgs{cipherArgs: cipherArgs{a: impl.Cipher{Parts: make([][][]int, 2)}}})
			refusedNoise(t, f, noiseArgs{cipherArgs: cipherArgs{p: impl.Params{N: 2, T: 2, Noise: 1}, s: []int{0, 0}, a: impl.Cipher{Parts: make([][][]int, 2)}}})
		}
	}
	// of nothing and nothing the sum is nothing, and that is told
	if got := boundTold(impl.AddBound(impl.Whole{}, impl.Whole{Limbs: []int{}})); !got.same(noiseAnswer{ok: true}) {
		t.Errorf("AddBound of 0 and 0 = %v", got)
	}
}

// What lies behind a length is no more of the list, however good it would be.
func TestNoiseBehindTheLengthIsNotTaken(t *testing.T) {
	for _, p := range fewParams() {
		last := len(p.Primes) - 1
		for _, cut := range []func(x *noiseArgs){
			func(x *noiseArgs) { x.p.Primes = slices.Clone(p.Primes)[:last] },
			func(x *noiseArgs) { x.s = x.s[:p.N-1] },
			func(x *noiseArgs) { x.a.Parts = x.a.Parts[:1] },
			func(x *noiseArgs) { x.a.Parts = x.a.Parts[:2] },
			func(x *noiseArgs) { x.a.Parts[1] = x.a.Parts[1][:last] },
			func(x *noiseArgs) { x.a.Parts[1][last] = x.a.Parts[1][last][:p.N-1] },
			func(x *noiseArgs) { x.one.Limbs = []int{1, 2, 3}[:1] },
			func(x *noiseArgs) { x.other.Limbs = []int{1, 2, 3}[:0] },
			func(x *noiseArgs) { x.one.Limbs = []int{1, 0, 3}[:2] },
		} {
			for _, f := range noiseFunctions() {
				x := goodNoiseArgs(p, 3)
				cut(&x)
				mustAnswer(t, f.name, func() {
					if got := f.call(x); !got.same(f.wanted(x)) {
						t.Errorf("%s of %.600v = %v", f.name, x, got)
					}
				})
			}
		}
	}
}

// One list in several places is only read.
func TestNoiseOfListsThatShareMemory(t *testing.T) {
	for _, n := range ringSizes {
		p := impl.Params{N: n, T: 2, Noise: 3, Primes: fittingPrimes(n, 3, -1)}
		memory := slices.Repeat([]int{1, 0, 1, 1}, 20)
		before, primes := slices.Clone(memory), slices.Clone(p.Primes)
		row := memory[:n]
		rows := [][]int{row, memory[1 : n+1], row}
		for _, parts := range twoOrThree {
			x := noiseArgs{one: impl.Whole{Limbs: memory[:3]}, other: impl.Whole{Limbs: memory[:3]}}
			x.cipherArgs = cipherArgs{p: p, s: row, a: impl.Cipher{Parts: slices.Repeat([][][]int{rows}, parts)}}
			for _, f := range noiseFunctions() {
				got, want := f.call(x), f.wanted(x)
				if !got.ok || !got.same(want) {
					t.Errorf("%s of %.600v = %v, want %v", f.name, x, got, want)
				}
				scribble([][]int{got.whole.Limbs}, -77)
				if !slices.Equal(memory, before) || !slices.Equal(p.Primes, primes) || !sameMemory(rows[0], row) || !sameMemory(rows[2], row) {
					t.Fatalf("%s changes its lists", f.name)
				}
			}
		}
	}
}

// What one call tells is not what another one has told before, nor a bound that it was given, and no call changes what the next one tells.
func TestAnswersOfNoiseAreNewMemory(t *testing.T) {
	for _, p := range slices.Concat(fewParams(), narrowParams()[:10]) {
		for _, b := range edgeBounds(p) {
			for _, f := range noiseFunctions() {
				x := goodNoiseArgs(p, 2)
				x.one, x.other = wholeFrom(b), impl.Whole{}
				one, two, want := f.call(x), f.call(x), f.wanted(x)
				if !one.same(two) || !apart([][]int{one.whole.Limbs, two.whole.Limbs, x.one.Limbs}) {
					t.Errorf("%s of %v tells the same memory twice", f.name, p)
				}
				scribble([][]int{one.whole.Limbs, two.whole.Limbs}, -77)
				if again := f.call(x); !again.same(want) || !sameWhole(x.one, wholeFrom(b)) {
					t.Errorf("%s of %v = %v", f.name, p, again)
				}
			}
		}
	}
}

func TestDrawnNoise(t *testing.T) {
	d := dice(1152)
	for range 400 {
		p := d.params()
		x := noiseArgs{cipherArgs: cipherArgs{p: p, s: d.small(p.N, 1), a: d.cipher(p, 2+d.below(2))}}
		x.one, x.other = d.whole(d.below(2*len(p.Primes)+2)), d.above(d.below(2*len(p.Primes)+2))
		if d.below(3) > 0 {
			x.one.Neg = false
		}
		checkAllOfNoise(t, x)
	}
}
