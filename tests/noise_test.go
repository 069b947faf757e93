package tests

import (
	"math/big"
	"slices"
	"testing"

	"loop.example/g00133/impl"
)

// Promise 11: no noise is above its bound, where the bounds are below the limit.

// atMost asks for a noise that is not above its bound, both as the program tells them; whether the bound is below the limit or not, since it is cut at q alone and no noise is that great.
func (y tally) atMost(t *testing.T, name string, r keyring, c impl.Cipher, bound *big.Int) {
	t.Helper()
	noise := askNoiseOf(t, r.p, r.s, c)
	if noise.Cmp(bound) > 0 {
		t.Errorf("%s: %v, secret %v: the noise of %v is %v, and its bound %v", name, r.p, r.s, c, noise, bound)
	}
	if bound.Cmp(limitOf(r.p)) < 0 {
		y[name]++
	}
}

// measured is what is held, and the bound that the program tells for it.
type measured struct {
	held
	told *big.Int
}

// holdsBounds asks of a bound that it is the one of the document's words, of the noise that it is not above it, and of the plain that it is right where it is below the limit.
func (y tally) holdsBounds(t *testing.T, name string, r keyring, a measured) {
	t.Helper()
	if want := cutAt(r.p, a.bound); a.told.Cmp(want) != 0 {
		t.Errorf("%s: %v: the bound is %v, want %v", name, r.p, a.told, want)
	}
	y.atMost(t, name, r, a.c, a.told)
	a.bound = a.told
	tally{}.holds(t, name, r, a.held)
}

// bounded asks the program for the bound of what was made, by those of what it was made of.
func (r keyring) bounded(t *testing.T, name string, a held, bounds ...*big.Int) measured {
	t.Helper()
	x := ofParams(r.p, bounds...)
	return measured{held: a, told: askBound(t, name, x)}
}

// limited goes on with the bound that was told, so that the next one sees a cut.
func (a measured) limited() held {
	return held{c: a.c, m: a.m, bound: a.told}
}

func TestNoiseOfFreshCiphers(t *testing.T) {
	d, asked := dice(1101), tally{}
	for _, p := range noisyParams() {
		secrets := secretsOf(p.N, &d)
		plains := append(edgePlains(p), d.plain(p))
		for i := 0; i < len(plains); i += 3 {
			r := keyringOf(t, p, secrets[i%len(secrets)], &d)
			asked.holdsBounds(t, "fresh", r, r.bounded(t, "FreshBound", r.fresh(t, plains[i])))
		}
	}
	asked.atLeast(t, 500, "fresh")
}

func TestNoiseOfSums(t *testing.T) {
	d, asked := dice(1102), tally{}
	for _, p := range noisyParams() {
		r := keyringOf(t, p, d.small(p.N, 1), &d)
		a := r.bounded(t, "FreshBound", r.fresh(t, d.plain(p))).limited()
		for range 4 {
			b := r.bounded(t, "FreshBound", r.fresh(t, d.plain(p))).limited()
			sum := r.sum(t, a, b)
			told := askBound(t, "AddBound", ofParams(r.p, a.bound, b.bound))
			if told.Cmp(sum.bound) != 0 {
				t.Errorf("AddBound of %v and %v is %v", a.bound, b.bound, told)
			}
			asked.atMost(t, "sum", r, sum.c, told)
			asked.atMost(t, "opposite", r, r.opposite(t, sum).c, told)
			asked.holds(t, "sum deciphered", r, sum)
			a = sum
		}
	}
	asked.atLeast(t, 500, "sum", "opposite", "sum deciphered")
}

func TestNoiseOfPlainsWithCiphers(t *testing.T) {
	d, asked := dice(1103), tally{}
	for _, p := range noisyParams() {
		r := keyringOf(t, p, d.small(p.N, 1), &d)
		plains := append(edgePlains(p), d.plain(p))
		for i := 0; i < len(plains); i += 4 {
			a := r.bounded(t, "FreshBound", r.fresh(t, d.plain(p))).limited()
			plus := r.bounded(t, "AddPlainBound", r.plus(t, a, plains[i]), a.bound)
			asked.holdsBounds(t, "plus plain", r, plus)
			times := r.bounded(t, "MulPlainBound", r.times(t, a, plains[i]), a.bound)
			asked.holdsBounds(t, "times plain", r, times)
			both := r.bounded(t, "MulPlainBound", r.times(t, plus.limited(), plains[i]), plus.told)
			asked.holdsBounds(t, "plus and times plain", r, both)
		}
	}
	asked.atLeast(t, 300, "plus plain", "times plain", "plus and times plain")
}

func TestNoiseOfProducts(t *testing.T) {
	d, asked := dice(1104), tally{}
	for _, p := range noisyParams() {
		r := keyringOf(t, p, d.small(p.N, 1), &d)
		for range 2 {
			a := r.bounded(t, "FreshBound", r.fresh(t, d.plain(p))).limited()
			b := r.bounded(t, "FreshBound", r.fresh(t, d.plain(p))).limited()
			b = r.bounded(t, "AddPlainBound", r.plus(t, b, d.plain(p)), b.bound).limited()
			product := r.bounded(t, "MulBound", r.product(t, a, b), a.bound, b.bound)
			asked.holdsBounds(t, "product", r, product)
			switched := r.bounded(t, "SwitchBound", r.switched(t, product.limited()), product.told)
			asked.holdsBounds(t, "product switched", r, switched)
		}
	}
	asked.atLeast(t, 100, "product", "product switched")
}

func TestNoiseOfTurns(t *testing.T) {
	d, asked := dice(1105), tally{}
	for _, p := range noisyParams() {
		r := keyringOf(t, p, d.small(p.N, 1), &d)
		g := 2*d.below(p.N) + 1
		pairs := r.turnPairs(t, g)
		a := r.bounded(t, "FreshBound", r.fresh(t, d.plain(p))).limited()
		for range 3 {
			turned := r.bounded(t, "SwitchBound", r.turned(t, a, g, pairs), a.bound)
			asked.holdsBounds(t, "turn", r, turned)
			a = turned.limited()
		}
	}
	asked.atLeast(t, 200, "turn")
}

// One step after the other, drawn, each bound made of the ones before it by the program.
func TestNoiseOfDrawnReckonings(t *testing.T) {
	d, asked := dice(1106), tally{}
	for _, p := range roomyParams() {
		r := keyringOf(t, p, d.small(p.N, 1), &d)
		g := 2*d.below(p.N) + 1
		pairs := r.turnPairs(t, g)
		pool := []held{r.fresh(t, d.plain(p)), r.fresh(t, d.plain(p)), r.fresh(t, d.plain(p))}
		for range 15 {
			a, b := pool[d.below(len(pool))], pool[d.below(len(pool))]
			var c measured
			switch step := d.below(6); {
			case step == 0:
				c = r.bounded(t, "AddPlainBound", r.plus(t, a, d.plain(p)), a.bound)
			case step == 1:
				c = r.bounded(t, "MulPlainBound", r.times(t, a, d.plain(p)), a.bound)
			case step == 2 && len(a.c.Parts) == 2 && len(b.c.Parts) == 2:
				c = r.bounded(t, "MulBound", r.product(t, a, b), a.bound, b.bound)
			case step == 3 && len(a.c.Parts) == 2:
				c = r.bounded(t, "SwitchBound", r.turned(t, a, g, pairs), a.bound)
			case len(a.c.Parts) == 3:
				c = r.bounded(t, "SwitchBound", r.switched(t, a), a.bound)
			default:
				c = r.bounded(t, "AddBound", r.sum(t, a, b), a.bound, b.bound)
				// what AddBound tells is not cut; it is here, so that it goes on as a bound
				c.told = cutAt(p, c.told)
			}
			asked.holdsBounds(t, "drawn", r, c)
			pool[d.below(len(pool))] = c.limited()
		}
	}
	asked.atLeast(t, 700, "drawn")
}

// Any ciphers at all, of any numbers, with their noise itself for a bound.
func TestBoundsOfAnyCiphers(t *testing.T) {
	d := dice(1107)
	for _, p := range noisyParams() {
		r := keyringOf(t, p, d.small(p.N, 1), &d)
		g := 2*d.below(p.N) + 1
		plains := edgePlains(p)
		m := plains[d.below(len(plains))]
		two, three, other := held{c: d.cipher(p, 2), m: m}, held{c: d.cipher(p, 3), m: m}, held{c: d.cipher(p, 2), m: m}
		for _, a := range []*held{&two, &three, &other} {
			a.bound = askNoiseOf(t, p, r.s, a.c)
			if twice := new(big.Int).Lsh(a.bound, 1); twice.Cmp(bigProduct(p.Primes)) >= 0 {
				t.Errorf("%v: a noise of %v", p, a.bound)
			}
		}
		asked := tally{}
		asked.atMost(t, "sum", r, r.sum(t, two, three).c, askBound(t, "AddBound", ofParams(p, two.bound, three.bound)))
		asked.atMost(t, "plus plain", r, r.plus(t, three, m).c, askBound(t, "AddPlainBound", ofParams(p, three.bound)))
		asked.atMost(t, "times plain", r, r.times(t, two, m).c, askBound(t, "MulPlainBound", ofParams(p, two.bound)))
		asked.atMost(t, "product", r, r.product(t, two, other).c, askBound(t, "MulBound", ofParams(p, two.bound, other.bound)))
		asked.atMost(t, "switched", r, r.switched(t, three).c, askBound(t, "SwitchBound", ofParams(p, three.bound)))
		asked.atMost(t, "turned", r, r.turned(t, two, g, r.turnPairs(t, g)).c, askBound(t, "SwitchBound", ofParams(p, two.bound)))
	}
}

// Ciphers whose noise is chosen, each with each: nothing, the least, all there may be.
func TestProductsOfChosenNoise(t *testing.T) {
	for _, p := range slices.Concat(fewParams(), roomyParams()[:40], narrowParams()[:20]) {
		r := keyring{p: p, s: slices.Repeat([]int{1}, p.N)}
		var all []held
		half := halfOf(spaceOf(p))
		for _, size := range []*big.Int{bigOf(0), bigOf(1), limitOf(p), half} {
			for _, sign := range []int{1, -1} {
				noise := noughts(p.N)
				for i := range noise {
					noise[i].Mul(size, bigOf(sign))
				}
				a := held{c: cipherOfNoise(p, noise), m: make([]int, p.N), bound: size}
				if told := askNoiseOf(t, p, r.s, a.c); told.Cmp(size) != 0 {
					t.Errorf("%v: the noise %v is told as %v", p, size, told)
				}
				all = append(all, a)
			}
		}
		for _, a := range all {
			for _, b := range all {
				tally{}.atMost(t, "product", r, r.product(t, a, b).c, askBound(t, "MulBound", ofParams(p, a.bound, b.bound)))
			}
		}
	}
}

// loudWords draw all coins at their ends: the first row by this number below 3 (2 is -1), then rows of noise as great as may be, each with its sign.
func loudWords(p impl.Params, first int, signs ...int) []int {
	words := slices.Repeat([]int{first}, p.N)
	for _, sign := range signs {
		word := 1<<p.Noise - 1
		if sign < 0 {
			word <<= p.Noise
		}
		words = append(words, slices.Repeat([]int{word}, p.N)...)
	}
	return words
}

// loudPairs are a public one, or those that switch, whose noise is Noise in all places.
func loudPairs(t *testing.T, name string, p impl.Params, s []int, g int) []impl.Pair {
	t.Helper()
	var words []int
	for range p.Primes {
		words = append(words, slices.Repeat([]int{7}, len(p.Primes)*p.N)...)
		words = append(words, loudWords(p, 0, 1)[p.N:]...)
	}
	pairs, _ := askPairs(t, name, keyArgs{p: p, s: s, g: g, words: words})
	return pairs
}

// inLastPlace is a noise that is nothing in all other places.
func inLastPlace(p impl.Params, b *big.Int) []*big.Int {
	noise := noughts(p.N)
	noise[p.N-1].Set(b)
	return noise
}

// reached asks for a noise that is just the bound, where q leaves room for it.
func (y tally) reached(t *testing.T, name string, r keyring, c impl.Cipher, bound *big.Int) {
	t.Helper()
	if bound.Cmp(halfOf(spaceOf(r.p))) > 0 {
		return
	}
	y[name]++
	if noise := askNoiseOf(t, r.p, r.s, c); noise.Cmp(bound) != 0 {
		t.Errorf("%s: %v: the noise is %v, and could be %v", name, r.p, noise, bound)
	}
}

// The bounds go no farther than they must: with all coins at their ends the noise is the bound itself. In the last place all N products of a product have one sign.
func TestBoundsAreReached(t *testing.T) {
	asked := tally{}
	for _, p := range noisyParams() {
		s := slices.Repeat([]int{1}, p.N)
		most := slices.Repeat([]int{p.T - 1}, p.N)
		r := keyring{p: p, s: s, public: loudPairs(t, "PublicFrom", p, s, 0)[0]}
		c := askCipher(t, "Encrypt", cipherArgs{p: p, k: r.public, m: most, words: loudWords(p, 1, -1, -1)}, 2)
		fresh := held{c: c, m: most, bound: askBound(t, "FreshBound", ofParams(p))}
		asked.reached(t, "fresh", r, fresh.c, fresh.bound)
		asked.reached(t, "sum", r, r.sum(t, fresh, fresh).c, askBound(t, "AddBound", ofParams(p, fresh.bound, fresh.bound)))
		asked.reached(t, "plus plain", r, r.plus(t, fresh, most).c, askBound(t, "AddPlainBound", ofParams(p, fresh.bound)))
		for _, size := range []*big.Int{bigOf(0), bigOf(1), cutAt(p, bigOf(1000)), fresh.bound, new(big.Int).Rsh(limitOf(p), 40)} {
			noise := noughts(p.N)
			for i := range noise {
				noise[i].Set(size)
			}
			a := held{c: cipherOfNoise(p, noise), m: most, bound: size}
			asked.reached(t, "chosen", r, a.c, size)
			asked.reached(t, "times plain", r, r.times(t, a, slices.Repeat([]int{p.T / 2}, p.N)).c, askBound(t, "MulPlainBound", ofParams(p, size)))
		}
	}
	asked.atLeast(t, 100, "fresh", "sum", "plus plain", "chosen", "times plain")
}

// The numbers that are switched are the greatest at each prime, and the pairs' noise is Noise in all places.
func TestSwitchBoundIsReached(t *testing.T) {
	asked := tally{}
	for _, p := range noisyParams() {
		s := slices.Repeat([]int{1}, p.N)
		var last [][]int
		for _, prime := range p.Primes {
			last = append(last, slices.Repeat([]int{prime - 1}, p.N))
		}
		relin, turn := loudPairs(t, "RelinFrom", p, s, 0), loudPairs(t, "TurnFrom", p, s, 1)
		r := keyring{p: p, s: s, relin: relin}
		for _, size := range []*big.Int{bigOf(0), bigOf(5), cutAt(p, freshBound(p))} {
			// all Parts but the first are -1 in all places: what they are under the secret is put into the first one with its sign turned
			minus := slices.Repeat([]int{-1}, p.N)
			wanted := numbersOfNoise(p, inLastPlace(p, new(big.Int).Neg(size)))
			product := intProduct(minus, s)
			three := held{c: cipherMeaning(p, bigDifferences(wanted, bigsOf(addedInts(product, intProduct(product, s)))), bigsOf(minus), bigsOf(minus)), m: minus}
			two := held{c: cipherMeaning(p, bigDifferences(wanted, bigsOf(product)), bigsOf(minus)), m: minus}
			if !sameLists(three.c.Parts[2], last) || !sameLists(two.c.Parts[1], last) {
				t.Fatal("not the greatest numbers", p)
			}
			three.bound, two.bound = size, size
			bound := askBound(t, "SwitchBound", ofParams(p, size))
			if size.Cmp(halfOf(spaceOf(p))) <= 0 {
				asked.reached(t, "three parts", r, three.c, size)
				asked.reached(t, "two parts", r, two.c, size)
				asked.reached(t, "switched", r, r.switched(t, three).c, bound)
				asked.reached(t, "turned", r, r.turned(t, two, 1, turn).c, bound)
			}
		}
	}
	asked.atLeast(t, 200, "three parts", "two parts", "switched", "turned")
}

// A plain with any noise below the limit is deciphered as it was: D m, and as much more as goes below the limit, either way.
func TestPlainsWithNoiseBelowTheLimit(t *testing.T) {
	d, asked := dice(1108), 0
	for _, p := range noisyParams() {
		limit := askBound(t, "NoiseLimit", ofParams(p))
		rest, T := restOf(p), bigOf(p.T)
		for _, m := range append(edgePlains(p), d.plain(p)) {
			for _, sign := range []int{1, -1} {
				numbers := bigScaled(bigsOf(m), stepOf(p))
				for i, x := range m {
					// T v less r m is at most the limit less 1, and at least its opposite
					farthest := new(big.Int).Sub(limit, bigOf(1))
					farthest.Mul(farthest, bigOf(sign)).Add(farthest, new(big.Int).Mul(rest, bigOf(x)))
					if sign < 0 {
						farthest.Add(farthest, bigOf(p.T-1))
					}
					numbers[i].Add(numbers[i], farthest.Div(farthest, T))
				}
				c := cipherMeaning(p, numbers, noughts(p.N))
				if noise := askNoiseOf(t, p, d.small(p.N, 1), c); noise.Cmp(limit) >= 0 {
					continue
				}
				asked++
				if plain := askPlain(t, p, d.small(p.N, 1), c); !slices.Equal(plain, m) {
					t.Errorf("%v: %v is deciphered as %v", p, m, plain)
				}
			}
		}
	}
	if asked < 3000 {
		t.Errorf("asked but %d times", asked)
	}
}

// The noise, T times what a cipher is under the secret, by the program's own rows.
func TestNoiseByRows(t *testing.T) {
	d := dice(1109)
	for _, p := range noisyParams() {
		space := spaceOf(p)
		for _, parts := range twoOrThree {
			s, c := d.small(p.N, 1), d.cipher(p, parts)
			secret := impl.Rows{Rows: leftRows(p, s)}
			sum, power := impl.Rows{Rows: c.Parts[0]}, secret
			for _, part := range c.Parts[1:] {
				product := askRows(t, "MulRows", rowsArgs{space: space, a: impl.Rows{Rows: part}, b: power})
				sum = askRows(t, "AddRows", rowsArgs{space: space, a: sum, b: product})
				power = askRows(t, "MulRows", rowsArgs{space: space, a: power, b: secret})
			}
			noise := askRows(t, "ScaleRows", rowsArgs{space: space, a: sum, by: impl.WholeOf(p.T)})
			want := greatestOf(bigsFrom(askWholes(t, space, noise)), bigProduct(p.Primes))
			if got := askNoiseOf(t, p, s, c); got.Cmp(want) != 0 {
				t.Errorf("%v: NoiseOf = %v, want %v", p, got, want)
			}
		}
	}
}

// The greatest size is found in each place, above 0 and below, beside sizes that are one less, in each Part.
func TestTheGreatestNoiseInEachPlace(t *testing.T) {
	for _, p := range slices.Concat(fewParams(), roomyParams()[:32]) {
		half := halfOf(spaceOf(p))
		s := append([]int{1}, make([]int, p.N-1)...)
		for _, size := range []*big.Int{bigOf(1), bigOf(2), bigOf(impl.Limb), half} {
			if size.Cmp(half) > 0 {
				continue
			}
			for place := range p.N {
				for _, sign := range []int{1, -1} {
					noise := noughts(p.N)
					for i := range noise {
						noise[i].Sub(size, bigOf(1)).Mul(noise[i], bigOf(1-2*(i%2)))
					}
					noise[place].Mul(size, bigOf(sign))
					for part := range 3 {
						parts := [][]*big.Int{noughts(p.N), noughts(p.N), noughts(p.N)}
						parts[part] = numbersOfNoise(p, noise)
						if got := askNoiseOf(t, p, s, cipherMeaning(p, parts...)); got.Cmp(size) != 0 {
							t.Errorf("%v: the noise %v in place %d of Part %d is told as %v", p, noise, place, part, got)
						}
					}
				}
			}
		}
	}
}

func TestNoiseOfNoughts(t *testing.T) {
	for _, p := range noisyParams() {
		for _, parts := range twoOrThree {
			nothing := cipherMeaning(p, slices.Repeat([][]*big.Int{noughts(p.N)}, parts)...)
			for _, s := range edgeSmall(p.N, 1) {
				if noise := askNoiseOf(t, p, s, nothing); noise.Sign() != 0 {
					t.Errorf("%v: nothing has a noise of %v", p, noise)
				}
			}
			checkNoise(t, noiseFunction("NoiseOf"), noiseArgs{cipherArgs: cipherArgs{p: p, s: make([]int, p.N), a: nothing}})
		}
	}
}

// A secret of noughts sees Part 0 alone, and one of 1 all Parts together.
func TestNoiseHangsOnTheSecret(t *testing.T) {
	p := impl.Params{N: 2, T: 3, Noise: 1, Primes: []int{97, 193}}
	c := cipherMeaning(p, bigsOf([]int{5, 0}), bigsOf([]int{0, 70}), bigsOf([]int{900, 0}))
	cases := []struct {
		s    []int
		want int
	}{
		{[]int{0, 0}, 15}, {[]int{1, 0}, 2715}, {[]int{-1, 0}, 2715}, {[]int{0, 1}, 2895}, {[]int{0, -1}, 2475}, {[]int{1, 1}, 5610},
	}
	for _, k := range cases {
		// X X is -1: under X Part 1 is -70 and Part 2 -900; 1 and X squared is 2 X, so -65 + 1870 X
		if noise := askNoiseOf(t, p, k.s, c); noise.Cmp(bigOf(k.want)) != 0 {
			t.Errorf("under %v the noise is %v, want %d", k.s, noise, k.want)
		}
	}
}

func TestBoundsAtTheEdges(t *testing.T) {
	for _, p := range noisyParams() {
		edges := edgeBounds(p)
		for i, a := range edges {
			for _, f := range noiseFunctions() {
				if !f.cipher {
					checkNoise(t, f, ofParams(p, a, edges[(7*i+3)%len(edges)]))
				}
			}
		}
	}
}

// Each edge with each other one, of few params.
func TestMulBoundOfAllEdges(t *testing.T) {
	for _, p := range slices.Concat(fewParams(), narrowParams()[:10]) {
		for _, a := range edgeBounds(p) {
			for _, b := range edgeBounds(p) {
				got, want := noiseFunction("MulBound").call(ofParams(p, a, b)), wantBound(p, timesBound(p, a, b))
				if turned := noiseFunction("MulBound").call(ofParams(p, b, a)); !got.same(want) || !turned.same(want) {
					t.Errorf("%v: MulBound of %v and %v = %v, and %v the other way, want %v", p, a, b, got, turned, want)
				}
			}
		}
	}
}

// The quotient goes down: N a b is just a multiple of q, or one below it.
func TestMulBoundBesideAMultiple(t *testing.T) {
	just, below := 0, 0
	for _, p := range roomyParams() {
		q := bigProduct(p.Primes)
		isCut := func(a *big.Int, b *big.Int) bool { return timesBound(p, a, b).Cmp(q) > 0 }
		for i := 1; i < len(p.Primes); i++ {
			a, b := bigProduct(p.Primes[:i]), bigProduct(p.Primes[i:])
			checkNoise(t, noiseFunction("MulBound"), ofParams(p, a, b))
			if !isCut(a, b) {
				just++
			}
		}
		for a := 1; a < 200; a++ {
			b := new(big.Int).ModInverse(bigOf(-p.N*a), q)
			if b != nil && !isCut(bigOf(a), b) {
				checkNoise(t, noiseFunction("MulBound"), ofParams(p, bigOf(a), b))
				below++
			}
		}
	}
	if just < 30 || below < 30 {
		t.Errorf("asked but %d and %d times", just, below)
	}
}

// A bound is cut just where it would be above q: at q it is q, one beyond it is q too, and one below it is not.
func TestWhereBoundsAreCut(t *testing.T) {
	names := []string{"AddPlainBound", "MulPlainBound", "SwitchBound"}
	seen := map[string]int{}
	for _, p := range noisyParams() {
		q := bigProduct(p.Primes)
		for i, name := range names {
			last := lastWhere(q, func(b *big.Int) bool { return uncut(p)[i](b).Cmp(q) <= 0 })
			if last.Sign() < 0 {
				continue
			}
			below, above := askBound(t, name, ofParams(p, last)), askBound(t, name, ofParams(p, new(big.Int).Add(last, bigOf(1))))
			if below.Cmp(uncut(p)[i](last)) != 0 || above.Cmp(q) != 0 {
				t.Errorf("%v: %s of %v is %v, and of one more %v", p, name, last, below, above)
			}
			if below.Cmp(q) == 0 {
				seen[name]++
			}
		}
		for _, name := range append(names, "MulBound") {
			for _, far := range []*big.Int{q, new(big.Int).Add(q, bigOf(1)), new(big.Int).Mul(q, q)} {
				if bound := askBound(t, name, ofParams(p, far, far)); bound.Cmp(q) != 0 {
					t.Errorf("%v: %s of %v = %v", p, name, far, bound)
				}
			}
		}
	}
	if seen["AddPlainBound"] < 100 || seen["SwitchBound"] < 100 {
		t.Error("no bound came just to q", seen)
	}
}

// FreshBound may be beyond q too: where there is one small prime, and much noise.
func TestFreshBoundIsCut(t *testing.T) {
	cut, whole := 0, 0
	for _, p := range noisyParams() {
		bound, q := askBound(t, "FreshBound", ofParams(p)), bigProduct(p.Primes)
		switch reckoned := freshBound(p); {
		case reckoned.Cmp(q) > 0 && bound.Cmp(q) == 0:
			cut++
		case reckoned.Cmp(q) <= 0 && bound.Cmp(reckoned) == 0:
			whole++
		default:
			t.Errorf("%v: FreshBound is %v, reckoned %v", p, bound, reckoned)
		}
	}
	if cut < 100 || whole < 100 {
		t.Errorf("%d were cut, %d not", cut, whole)
	}
}

// AddBound alone is not cut: it is given no params, and tells sums as far as whole numbers go.
func TestAddBoundIsNotCut(t *testing.T) {
	most := greatest()
	cases := []struct {
		a, b, want *big.Int
	}{
		{bigOf(0), bigOf(0), bigOf(0)},
		{bigOf(1 << 62), bigOf(1 << 62), powerOfTwo(63)},
		{powerOfTwo(1000), powerOfTwo(1000), powerOfTwo(1001)},
		{most, bigOf(0), most},
		{new(big.Int).Sub(most, bigOf(1)), bigOf(1), most},
		{powerOfTwo(1119), new(big.Int).Sub(powerOfTwo(1119), bigOf(1)), most},
	}
	for _, c := range cases {
		for _, x := range []noiseArgs{ofParams(impl.Params{}, c.a, c.b), ofParams(impl.Params{}, c.b, c.a)} {
			if got := askBound(t, "AddBound", x); got.Cmp(c.want) != 0 {
				t.Errorf("AddBound of %v and %v = %v", c.a, c.b, got)
			}
		}
	}
	for _, x := range []noiseArgs{ofParams(impl.Params{}, most, bigOf(1)), ofParams(impl.Params{}, most, most), ofParams(impl.Params{}, powerOfTwo(1119), powerOfTwo(1119))} {
		if got := noiseFunction("AddBound").call(x); !got.same(noiseAnswer{}) {
			t.Errorf("a sum beyond all whole numbers is %v", got)
		}
	}
}

// Every T of one small prime: T r is beyond q, near it on either side, or far below.
func TestNoiseLimitOfSmallPrimes(t *testing.T) {
	beyond, nearest := 0, map[int]bool{}
	for _, n := range ringSizes {
		for prime := 2*n + 1; prime < 400; prime += 2 * n {
			if !bigOf(prime).ProbablyPrime(0) {
				continue
			}
			for T := 2; T < prime; T++ {
				p := impl.Params{N: n, T: T, Noise: 1, Primes: []int{prime}}
				left := prime - T*(prime%T)
				if left < 0 {
					beyond++
				}
				nearest[left] = true
				if limit := askBound(t, "NoiseLimit", ofParams(p)); limit.Cmp(bigOf(max(0, left)/2)) != 0 {
					t.Errorf("%v: the limit is %v, and q less T r is %d", p, limit, left)
				}
			}
		}
	}
	// T r is never q itself, since T is below each prime and so divides none
	if beyond < 1000 || !nearest[-1] || !nearest[1] || !nearest[3] || nearest[0] {
		t.Errorf("%d are beyond q; as near as one: %v, %v", beyond, nearest[-1], nearest[1])
	}
}

func TestLimitsAndDepthsOfAllParams(t *testing.T) {
	spent, none, some := 0, 0, 0
	for _, p := range noisyParams() {
		for _, name := range []string{"NoiseLimit", "FreshBound", "DepthOf"} {
			checkNoise(t, noiseFunction(name), ofParams(p))
		}
		depth := askCount(t, "DepthOf", ofParams(p))
		fresh, limit := askBound(t, "FreshBound", ofParams(p)), askBound(t, "NoiseLimit", ofParams(p))
		switch {
		case fresh.Cmp(limit) >= 0:
			spent++
			if depth != 0 {
				t.Errorf("%v: the depth is %d, and a fresh bound not below the limit", p, depth)
			}
		case depth == 0:
			none++
		default:
			some++
		}
	}
	if spent < 100 || none < 30 || some < 30 {
		t.Errorf("spent %d, of no depth %d, of some %d", spent, none, some)
	}
}

// As deep as is told each square is deciphered rightly, its noise is not above the bound, and the bound is below the limit; one deeper it is not.
func TestSquaresAsDeepAsIsTold(t *testing.T) {
	d, most := dice(1110), 0
	for _, p := range slices.Concat(roomyParams(), fewParams()) {
		depth, limit := askCount(t, "DepthOf", ofParams(p)), askBound(t, "NoiseLimit", ofParams(p))
		r, asked := keyringOf(t, p, d.small(p.N, 1), &d), tally{}
		a := r.bounded(t, "FreshBound", r.fresh(t, d.plain(p)))
		for range depth {
			if a.told.Cmp(limit) >= 0 {
				t.Fatalf("%v: the depth is %d, and the bound %v not below the limit %v", p, depth, a.told, limit)
			}
			b := a.limited()
			product := r.bounded(t, "MulBound", r.product(t, b, b), b.bound, b.bound)
			a = r.bounded(t, "SwitchBound", r.switched(t, product.limited()), product.told)
			asked.holdsBounds(t, "square", r, a)
		}
		if asked["square"] != depth {
			t.Errorf("%v: the depth is %d, but %d squares were below the limit", p, depth, asked["square"])
		}
		square := askBound(t, "MulBound", ofParams(p, a.told, a.told))
		if next := askBound(t, "SwitchBound", ofParams(p, square)); depth < deepest && a.told.Cmp(limit) < 0 && next.Cmp(limit) < 0 {
			t.Errorf("%v: the depth is %d, but the next bound %v is below the limit %v", p, depth, next, limit)
		}
		most = max(most, depth)
	}
	if most < 15 {
		t.Errorf("the greatest depth was %d", most)
	}
}

// Of these the first square's bound is the limit itself, so not below it.
func TestABoundThatIsJustTheLimit(t *testing.T) {
	for _, p := range []impl.Params{{N: 2, T: 2, Noise: 9, Primes: []int{89, 541}}, {N: 2, T: 4, Noise: 12, Primes: []int{317, 593}}, {N: 4, T: 2, Noise: 4, Primes: []int{73, 1289}}} {
		fresh, limit := askBound(t, "FreshBound", ofParams(p)), askBound(t, "NoiseLimit", ofParams(p))
		square := askBound(t, "SwitchBound", ofParams(p, askBound(t, "MulBound", ofParams(p, fresh, fresh))))
		if fresh.Cmp(limit) >= 0 || square.Cmp(limit) != 0 {
			t.Errorf("%v: the bounds are %v and %v, the limit %v", p, fresh, square, limit)
		}
		if depth := askCount(t, "DepthOf", ofParams(p)); depth != 0 {
			t.Errorf("%v: the depth is %d", p, depth)
		}
	}
}

// Of these the depth is as great as it is told at all.
func TestTheGreatestDepth(t *testing.T) {
	p := impl.Params{N: 2, T: 2, Noise: 1, Primes: fittingPrimes(2, impl.MaxRow, -1)}
	if depth := askCount(t, "DepthOf", ofParams(p)); depth != deepest || depthOf(p) != deepest {
		t.Errorf("%v: the depth is %d, reckoned %d", p, depth, depthOf(p))
	}
	p.Primes = p.Primes[:3]
	if depth := askCount(t, "DepthOf", ofParams(p)); depth != depthOf(p) || depth >= deepest || depth < 8 {
		t.Errorf("%v: the depth is %d, reckoned %d", p, depth, depthOf(p))
	}
}

// Bits of the limit, less bits of the bound, and nothing where the bound has as many or more.
func TestBudgets(t *testing.T) {
	for _, p := range noisyParams() {
		limit := askBound(t, "NoiseLimit", ofParams(p))
		for bits := range 2 * bigProduct(p.Primes).BitLen() {
			for _, b := range []*big.Int{powerOfTwo(bits), new(big.Int).Sub(powerOfTwo(bits), bigOf(1))} {
				if !isBoundFor(p, wholeFrom(b)) {
					continue
				}
				want := max(0, limit.BitLen()-b.BitLen())
				if got := countTold(impl.BudgetOf(p, wholeFrom(b))); !got.same(countTold(want, true)) {
					t.Errorf("%v: BudgetOf %v = %v, want %d", p, b, got, want)
				}
			}
		}
		// what has a budget is below the limit
		for _, b := range edgeBounds(p) {
			if askCount(t, "BudgetOf", ofParams(p, b)) > 0 && b.Cmp(limit) >= 0 {
				t.Errorf("%v: %v is not below the limit %v, and has a budget", p, b, limit)
			}
		}
	}
}

// Bounds grow with what they are made of, and are never less than it, but for a plain's factor of 1.
func TestBoundsGrow(t *testing.T) {
	for _, p := range fewParams() {
		edges := edgeBounds(p)
		slices.SortFunc(edges, (*big.Int).Cmp)
		for _, name := range []string{"AddPlainBound", "MulPlainBound", "SwitchBound", "MulBound"} {
			before := new(big.Int)
			for _, b := range edges {
				bound := askBound(t, name, ofParams(p, b, b))
				if bound.Cmp(before) < 0 || bound.Cmp(cutAt(p, b)) < 0 {
					t.Errorf("%v: %s of %v is %v, and before %v", p, name, b, bound, before)
				}
				before = bound
			}
		}
	}
}

// Reckoned by hand.
func TestNamedBounds(t *testing.T) {
	// q is 18721, r is 4; M is 17 3 / 2, down, and 1, so 26; 17 7 / 2, down, is 59; the primes less 1 are 288 together
	p := impl.Params{N: 2, T: 17, Noise: 1, Primes: []int{97, 193}}
	// q is 5, r is 2: T r is 6, beyond q
	spent := impl.Params{N: 2, T: 3, Noise: 16, Primes: []int{5}}
	// q is 5, r is 1: T r is 4, and half of 1, down, is 0
	tight := impl.Params{N: 2, T: 4, Noise: 1, Primes: []int{5}}
	// q is 268435361, r is 1; M is 2 3 / 2 and 1, so 4; 2 7 / 2 is 7
	wide := impl.Params{N: 2, T: 2, Noise: 1, Primes: []int{268435361}}
	cases := []struct {
		name   string
		p      impl.Params
		a, b   int
		bound  int
		number int
	}{
		{name: "NoiseLimit", p: p, bound: 9326},
		{name: "FreshBound", p: p, bound: 64 + 85},
		{name: "AddBound", p: p, a: 18721, b: 18721, bound: 37442},
		{name: "AddPlainBound", p: p, a: 100, bound: 164},
		{name: "AddPlainBound", p: p, a: 18721 - 64, bound: 18721},
		{name: "AddPlainBound", p: p, a: 18721 - 63, bound: 18721},
		{name: "AddPlainBound", p: p, a: 18721 - 65, bound: 18720},
		{name: "MulPlainBound", p: p, a: 100, bound: 1600},
		{name: "MulPlainBound", p: p, a: 1170, bound: 18720},
		{name: "MulPlainBound", p: p, a: 1171, bound: 18721},
		{name: "MulPlainBound", p: p, a: 0, bound: 0},
		{name: "MulBound", p: p, a: 0, b: 0, bound: 1 + 59 + 1},
		{name: "MulBound", p: p, a: 100, b: 50, bound: 52*150 + 61},
		{name: "MulBound", p: p, a: 1, b: 9361, bound: 18721},
		// 2 100 250 / 18721 is 2.7
		{name: "MulBound", p: p, a: 100, b: 250, bound: 52*350 + 2 + 61},
		{name: "MulBound", p: p, a: 350475841, b: 350475841, bound: 18721},
		{name: "SwitchBound", p: p, a: 7, bound: 7 + 17*2*288},
		{name: "SwitchBound", p: p, a: 18721, bound: 18721},
		{name: "BudgetOf", p: p, a: 149, number: 14 - 8},
		{name: "BudgetOf", p: p, a: 0, number: 14},
		{name: "BudgetOf", p: p, a: 8191, number: 1},
		{name: "BudgetOf", p: p, a: 8192, number: 0},
		{name: "BudgetOf", p: p, a: 350475841, number: 0},
		{name: "DepthOf", p: p, number: 0},
		{name: "NoiseLimit", p: spent, bound: 0},
		{name: "FreshBound", p: spent, bound: 5},
		{name: "BudgetOf", p: spent, a: 0, number: 0},
		{name: "DepthOf", p: spent, number: 0},
		{name: "AddPlainBound", p: spent, a: 0, bound: 4},
		{name: "AddPlainBound", p: spent, a: 25, bound: 5},
		{name: "NoiseLimit", p: tight, bound: 0},
		{name: "FreshBound", p: tight, bound: 5},
		{name: "DepthOf", p: tight, number: 0},
		// (268435361 - 2) / 2, down
		{name: "NoiseLimit", p: wide, bound: 134217679},
		{name: "FreshBound", p: wide, bound: 1 + 10},
		{name: "SwitchBound", p: wide, a: 11, bound: 268435361},
		{name: "BudgetOf", p: wide, a: 11, number: 27 - 4},
		// 4 times the prime less 1 is beyond q
		{name: "DepthOf", p: wide, number: 0},
	}
	for _, c := range cases {
		x := ofParams(c.p, bigOf(c.a), bigOf(c.b))
		want := noiseAnswer{whole: impl.WholeOf(c.bound), number: c.number, ok: true}
		if got := noiseFunction(c.name).call(x); !got.same(want) {
			t.Errorf("%s of %v, %d, %d = %v, want %v", c.name, c.p, c.a, c.b, got, want)
		}
		checkNoise(t, noiseFunction(c.name), x)
	}
}

// A depth that is reckoned by hand: primes 268435361 and 268435009, N 2, T 2, Noise 1.
func TestANamedDepth(t *testing.T) {
	p := impl.Params{N: 2, T: 2, Noise: 1, Primes: []int{268435361, 268435009}}
	// r is 1, the fresh bound 11. N M is 8, so a square has 16 times the bound, and 9 more; a switch 4 times 536870368: 2147481472
	// and 2 2147481657 2147481657 / q is 128.00002
	bound := 11
	for _, next := range []int{16*11 + 9 + 2147481472, 16*2147481657 + 128 + 9 + 2147481472} {
		square, _ := impl.MulBound(p, impl.WholeOf(bound), impl.WholeOf(bound))
		told, ok := impl.SwitchBound(p, square)
		if !ok || impl.CmpWholes(told, impl.WholeOf(next)) != 0 {
			t.Errorf("of %d the next bound is %s, want %d", bound, impl.WholeText(told), next)
		}
		bound = next
	}
	// each is some 16 times the one before: from 2^31 on six of them are below 2^55
	if depth, ok := impl.DepthOf(p); !ok || depth != 6 {
		t.Errorf("the depth is %d, %v", depth, ok)
	}
}
