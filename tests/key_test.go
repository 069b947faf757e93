package tests

import (
	"math/big"
	"runtime"
	"slices"
	"sync"
	"testing"

	"loop.example/g00133/impl"
)

// Promise 8: keys have just the noise that was drawn.

// drawnPair is what the program's own rows of coins draw for one pair, one behind the other.
type drawnPair struct {
	a    [][]int
	e    []int
	next int
}

func drawPair(t *testing.T, p impl.Params, words []int, at int) drawnPair {
	t.Helper()
	drawn := drawnPair{next: at}
	for _, prime := range p.Primes {
		row, next, ok := impl.UniformRow(words, drawn.next, prime, p.N)
		if !ok {
			t.Fatalf("UniformRow at %d of %d words: not enough", drawn.next, len(words))
		}
		drawn.a, drawn.next = append(drawn.a, row), next
	}
	e, next, ok := impl.NoiseRow(words, drawn.next, p.Noise, p.N)
	if !ok {
		t.Fatalf("NoiseRow at %d of %d words: not enough", drawn.next, len(words))
	}
	drawn.e, drawn.next = e, next
	return drawn
}

// openedPair are the centred numbers of B and A s less k, by the program's own rows.
func openedPair(t *testing.T, p impl.Params, s []int, pair impl.Pair, k [][]int) []*big.Int {
	t.Helper()
	space := spaceOf(p)
	secret := impl.Rows{Rows: leftRows(p, s)}
	product := askRows(t, "MulRows", rowsArgs{space: space, a: impl.Rows{Rows: pair.A}, b: secret})
	sum := askRows(t, "AddRows", rowsArgs{space: space, a: impl.Rows{Rows: pair.B}, b: product})
	left := askRows(t, "SubRows", rowsArgs{space: space, a: sum, b: impl.Rows{Rows: k}})
	return bigsFrom(askWholes(t, space, left))
}

// oppositeOf is the noise with its sign turned, as far as the product of the primes goes.
func oppositeOf(p impl.Params, e []int) []*big.Int {
	var numbers []*big.Int
	for _, x := range e {
		numbers = append(numbers, centredBig(bigOf(-x), bigProduct(p.Primes)))
	}
	return numbers
}

func sameBigs(a []*big.Int, b []*big.Int) bool {
	return slices.EqualFunc(a, b, func(x *big.Int, y *big.Int) bool { return x.Cmp(y) == 0 })
}

// checkPairFor asks that the pair is for the rows k, has the A that was drawn, and no noise but the one that was drawn.
func checkPairFor(t *testing.T, x keyArgs, pair impl.Pair, k [][]int, drawn drawnPair) {
	t.Helper()
	if !sameLists(pair.A, drawn.a) {
		t.Errorf("%v: A is %v, and %v was drawn", x.p, pair.A, drawn.a)
	}
	if left := openedPair(t, x.p, x.s, pair, k); !sameBigs(left, oppositeOf(x.p, drawn.e)) {
		t.Errorf("%v, secret %v: B and A s less k is %v, and the noise %v was drawn", x.p, x.s, left, drawn.e)
	}
}

// secretsOf are the edges and two others.
func secretsOf(n int, d *dice) [][]int {
	return append(edgeSmall(n, 1), d.small(n, 1), d.small(n, 1))
}

func TestPublicPairsHaveJustTheNoiseThatWasDrawn(t *testing.T) {
	d := dice(801)
	for _, p := range goodParams() {
		nothing := make([]int, p.N)
		for _, s := range secretsOf(p.N, &d) {
			x := keyArgs{p: p, s: s, words: d.wordsOf(p), at: d.below(100)}
			pairs, next := askPairs(t, "PublicFrom", x)
			drawn := drawPair(t, p, x.words, x.at)
			checkPairFor(t, x, pairs[0], leftRows(p, nothing), drawn)
			if next != drawn.next {
				t.Errorf("%v: the next at is %d, and %d when drawn", p, next, drawn.next)
			}
			noise := askNoise(t, p, s, pairs[0], nothing)
			if noise.Cmp(greatestOf(bigsOf(drawn.e), bigProduct(p.Primes))) != 0 || noise.Cmp(bigOf(p.Noise)) > 0 {
				t.Errorf("%v: the noise is %v, and %v was drawn", p, noise, drawn.e)
			}
		}
	}
}

// Where the primes' product is above twice Noise, the noise is the size of what was drawn itself, up to Noise.
func TestTheGreatestNoiseOfAPair(t *testing.T) {
	for _, n := range ringSizes {
		for b := 1; b <= impl.MaxNoise; b++ {
			p := impl.Params{N: n, T: 2, Noise: b, Primes: fittingPrimes(n, 2, 1)}
			for place := range n {
				for _, word := range []int{1<<b - 1, (1<<b - 1) << b} {
					words := make([]int, 3*n)
					words[2*n+place] = word
					x := keyArgs{p: p, s: slices.Repeat([]int{-1}, n), words: words}
					pairs, next := askPairs(t, "PublicFrom", x)
					if noise := askNoise(t, p, x.s, pairs[0], make([]int, n)); noise.Cmp(bigOf(b)) != 0 || next != 3*n {
						t.Errorf("%v: the noise of %v is %v, next %d", p, words, noise, next)
					}
				}
			}
		}
	}
}

func TestSwitchPairsAreForARowAtOnePrimeAlone(t *testing.T) {
	d := dice(802)
	for _, p := range goodParams() {
		for _, other := range append(edgeSmall(p.N, impl.MaxN), d.small(p.N, impl.MaxN)) {
			x := keyArgs{p: p, s: d.small(p.N, 1), other: other, words: d.wordsOf(p), at: d.below(100)}
			pairs, next := askPairs(t, "SwitchFrom", x)
			at := x.at
			for i, pair := range pairs {
				drawn := drawPair(t, p, x.words, at)
				checkPairFor(t, x, pair, aloneRows(p, other, i), drawn)
				at = drawn.next
			}
			if next != at {
				t.Errorf("%v: the next at is %d, and %d when drawn", p, next, at)
			}
		}
	}
}

// Of one prime the only pair is one for other itself.
func TestSwitchPairOfOnePrime(t *testing.T) {
	d := dice(803)
	for _, n := range ringSizes {
		for _, l := range [][]int{fittingPrimes(n, 1, -1), {786433}, {primeFor(n, 640*n+1, 1)}} {
			for _, other := range append(edgeSmall(n, impl.MaxN), d.small(n, impl.MaxN)) {
				p := impl.Params{N: n, T: 2, Noise: 7, Primes: l}
				x := keyArgs{p: p, s: d.small(n, 1), other: other, words: d.wordsOf(p)}
				pairs, _ := askPairs(t, "SwitchFrom", x)
				e := drawPair(t, p, x.words, 0).e
				if noise := askNoise(t, p, x.s, pairs[0], other); noise.Cmp(greatestOf(bigsOf(e), bigProduct(l))) != 0 {
					t.Errorf("%v, other %v: the noise is %v, and %v was drawn", p, other, noise, e)
				}
			}
		}
	}
}

// All pairs together are one for other, with all their noise together.
func TestSwitchPairsTogetherAreForOther(t *testing.T) {
	d := dice(804)
	for _, p := range goodParams() {
		x := keyArgs{p: p, s: d.small(p.N, 1), other: d.small(p.N, impl.MaxN), words: d.wordsOf(p)}
		pairs, _ := askPairs(t, "SwitchFrom", x)
		a, b := impl.Rows{Rows: pairs[0].A}, impl.Rows{Rows: pairs[0].B}
		noise, at := noughts(p.N), 0
		for i, pair := range pairs {
			if i > 0 {
				a = askRows(t, "AddRows", rowsArgs{space: spaceOf(p), a: a, b: impl.Rows{Rows: pair.A}})
				b = askRows(t, "AddRows", rowsArgs{space: spaceOf(p), a: b, b: impl.Rows{Rows: pair.B}})
			}
			drawn := drawPair(t, p, x.words, at)
			noise, at = bigSums(noise, bigsOf(drawn.e)), drawn.next
		}
		got := askNoise(t, p, x.s, impl.Pair{A: a.Rows, B: b.Rows}, x.other)
		if got.Cmp(greatestOf(noise, bigProduct(p.Primes))) != 0 {
			t.Errorf("%v: together the noise is %v, and %v was drawn", p, got, noise)
		}
	}
}

func TestRelinIsSwitchOfTheSquare(t *testing.T) {
	d := dice(805)
	for _, p := range goodParams() {
		for _, s := range secretsOf(p.N, &d) {
			x := keyArgs{p: p, s: s, other: intProduct(s, s), words: d.wordsOf(p), at: d.below(50)}
			got, want := keyFunction("RelinFrom").call(x), keyFunction("SwitchFrom").call(x)
			if !got.ok || !got.same(want) {
				t.Errorf("%v: RelinFrom of %v = %v, SwitchFrom of the square %v", p, s, got, want)
			}
		}
	}
}

// The square of numbers that are all 1 or -1 goes as far as N: with 16 of them that is MaxN.
func TestTheGreatestSquares(t *testing.T) {
	d := dice(806)
	for _, n := range ringSizes {
		p := impl.Params{N: n, T: 2, Noise: 1, Primes: fittingPrimes(n, impl.MaxRow, -1)}
		for _, s := range [][]int{slices.Repeat([]int{1}, n), slices.Repeat([]int{-1}, n)} {
			square := intProduct(s, s)
			if square[n-1] != n || square[0] != 2-n {
				t.Fatal(square)
			}
			x := keyArgs{p: p, s: s, words: d.wordsOf(p)}
			pairs, _ := askPairs(t, "RelinFrom", x)
			at := 0
			for i, pair := range pairs {
				drawn := drawPair(t, p, x.words, at)
				checkPairFor(t, x, pair, aloneRows(p, square, i), drawn)
				at = drawn.next
			}
		}
	}
}

func TestTurnIsSwitchOfTheTurnedSecret(t *testing.T) {
	d := dice(807)
	for _, p := range goodParams() {
		for g := 1; g < 2*p.N; g += 2 {
			s := d.small(p.N, 1)
			x := keyArgs{p: p, s: s, g: g, other: intTurned(s, g), words: d.wordsOf(p), at: d.below(50)}
			got, want := keyFunction("TurnFrom").call(x), keyFunction("SwitchFrom").call(x)
			if !got.ok || !got.same(want) {
				t.Errorf("%v: TurnFrom of %v by %d = %v, SwitchFrom of what was turned %v", p, s, g, got, want)
			}
		}
		s := d.small(p.N, 1)
		x := keyArgs{p: p, s: s, g: 1, other: s, words: d.wordsOf(p)}
		if got, want := keyFunction("TurnFrom").call(x), keyFunction("SwitchFrom").call(x); !got.same(want) {
			t.Errorf("%v: TurnFrom of %v by 1 = %v, SwitchFrom of it %v", p, s, got, want)
		}
	}
}

// Pair by pair the coins are those of a public pair that is made from the next at on.
func TestPairsTakeCoinsOneBehindTheOther(t *testing.T) {
	d := dice(808)
	for _, p := range goodParams() {
		s := d.small(p.N, 1)
		x := keyArgs{p: p, s: s, other: make([]int, p.N), words: d.wordsOf(p), at: d.below(50)}
		pairs, next := askPairs(t, "SwitchFrom", x)
		for i, pair := range pairs {
			alone, after := askPairs(t, "PublicFrom", x)
			if !samePair(alone[0], pair) {
				t.Errorf("%v: pair %d for nothing is %v, and alone %v", p, i, pair, alone[0])
			}
			x.at = after
		}
		if next != x.at {
			t.Errorf("%v: the next at is %d, and %d one by one", p, next, x.at)
		}
	}
}

// Each word is another one, so each place shows which words were taken for it.
func TestWhichWordsAreTaken(t *testing.T) {
	p := impl.Params{N: 4, T: 3, Noise: impl.MaxNoise, Primes: fittingPrimes(4, impl.MaxRow, -1)}
	count := len(p.Primes)
	words := make([]int, 10+(count+1)*count*p.N)
	for i := range words {
		words[i] = 1000 + i
	}
	x := keyArgs{p: p, s: make([]int, 4), other: make([]int, 4), g: 3, words: words, at: 10}
	for _, f := range pairMakers() {
		pairs, next := askPairs(t, f.name, x)
		if next != 10+(count+1)*len(pairs)*p.N {
			t.Errorf("%s: the next at is %d", f.name, next)
		}
		for i, pair := range pairs {
			for row := range pair.A {
				for place, number := range pair.A[row] {
					if want := 1010 + (i*(count+1)+row)*p.N + place; number != want {
						t.Errorf("%s: pair %d has %d at %d of row %d, want %d", f.name, i, number, place, row, want)
					}
				}
			}
		}
	}
}

// However the goroutines run, the answer is the same: with one or with many of them at a time, and beside other calls.
func TestOrderOfGoroutinesIsNotSeen(t *testing.T) {
	d := dice(809)
	before := runtime.GOMAXPROCS(0)
	defer runtime.GOMAXPROCS(before)
	p := impl.Params{N: impl.MaxN, T: 2, Noise: 9, Primes: fittingPrimes(impl.MaxN, impl.MaxRow, -1)}
	x := keyArgs{p: p, s: d.small(p.N, 1), other: d.small(p.N, impl.MaxN), g: 2*p.N - 1, words: d.wordsOf(p), at: 7}
	lacking := x
	lacking.words = x.words[:300]
	for _, f := range pairMakers() {
		want, refused := f.wanted(x), f.wanted(lacking)
		for _, most := range []int{1, 2, max(4, before)} {
			runtime.GOMAXPROCS(most)
			var callers sync.WaitGroup
			for range 8 {
				callers.Go(func() {
					for range 25 {
						if got := f.call(x); !got.same(want) {
							t.Errorf("%s = %v, want %v", f.name, got, want)
						}
						if got := f.call(lacking); !got.same(refused) {
							t.Errorf("%s of too few words = %v, want %v", f.name, got, refused)
						}
					}
				})
			}
			callers.Wait()
		}
	}
}

// A secret of noughts alone hides nothing: B is k less the noise.
func TestSecretsOfNoughts(t *testing.T) {
	d := dice(810)
	for _, p := range goodParams() {
		x := keyArgs{p: p, s: make([]int, p.N), other: d.small(p.N, impl.MaxN), words: d.wordsOf(p)}
		pairs, _ := askPairs(t, "SwitchFrom", x)
		at := 0
		for i, pair := range pairs {
			drawn := drawPair(t, p, x.words, at)
			at = drawn.next
			for row, prime := range p.Primes {
				for place, k := range aloneRows(p, x.other, i)[row] {
					if want := intMod(k-drawn.e[place], prime); pair.B[row][place] != want {
						t.Errorf("%v: pair %d has %d at %d by %d, want %d", p, i, pair.B[row][place], place, prime, want)
					}
				}
			}
		}
	}
}

func TestSecretsAreTernaryRows(t *testing.T) {
	d := dice(811)
	for _, p := range goodParams() {
		words := d.wordsOf(p)
		for _, at := range []int{0, 1, d.below(300)} {
			s, next, ok := impl.SecretFrom(p, words, at)
			row, after, _ := impl.TernaryRow(words, at, p.N)
			if !ok || !slices.Equal(s, row) || next != after || !impl.GoodSecret(p, s) {
				t.Errorf("SecretFrom(%v) at %d = %v, %d, %v, TernaryRow %v, %d", p, at, s, next, ok, row, after)
			}
		}
	}
}

// Any rows are a pair for what B and A s is: what is left of another want is how far that is from it.
func TestNoiseOfAnyPair(t *testing.T) {
	d := dice(812)
	for _, p := range goodParams() {
		product := bigProduct(p.Primes)
		for range 3 {
			s, space := d.small(p.N, 1), spaceOf(p)
			pair := impl.Pair{A: d.rows(space, false).Rows, B: d.rows(space, false).Rows}
			opened := openedPair(t, p, s, pair, leftRows(p, make([]int, p.N)))
			for _, want := range append(edgeSmall(p.N, farthestWant), d.small(p.N, farthestWant), d.small(p.N, 100)) {
				left := greatestOf(bigDifferences(opened, bigsOf(want)), product)
				if got := askNoise(t, p, s, pair, want); got.Cmp(left) != 0 {
					t.Errorf("%v: NoiseInPair of %v, %v, %v = %v, want %v", p, s, pair, want, got, left)
				}
			}
		}
	}
}

// The greatest noise that there is: half the product, above 0 and below it, in each place alone.
func TestNoiseAsGreatAsHalfTheProduct(t *testing.T) {
	for _, p := range goodParams() {
		space := spaceOf(p)
		half := halfOf(space)
		for place := range p.N {
			for _, far := range []*big.Int{half, new(big.Int).Neg(half), new(big.Int).Add(half, bigOf(1))} {
				numbers := noughts(p.N)
				numbers[place] = far
				pair := impl.Pair{A: leftRows(p, make([]int, p.N)), B: rowsMeaning(space, numbers, false).Rows}
				if noise := askNoise(t, p, make([]int, p.N), pair, make([]int, p.N)); noise.Cmp(half) != 0 {
					t.Errorf("%v: the noise of %v is %v", p, far, noise)
				}
			}
		}
	}
}

// A pair has the noise of another want as far as that is away: a number of want that is off by some shows there.
func TestNoiseOfAnotherWant(t *testing.T) {
	d := dice(813)
	for _, n := range ringSizes {
		p := impl.Params{N: n, T: 2, Noise: 4, Primes: fittingPrimes(n, 3, -1)}
		x := keyArgs{p: p, s: d.small(n, 1), words: d.wordsOf(p)}
		pairs, _ := askPairs(t, "PublicFrom", x)
		e := drawPair(t, p, x.words, 0).e
		for place := range n {
			for _, off := range []int{farthestWant, -farthestWant, 1000, -1000} {
				want := make([]int, n)
				want[place] = off
				far := bigOf(-e[place] - off)
				if noise := askNoise(t, p, x.s, pairs[0], want); noise.CmpAbs(far) != 0 {
					t.Errorf("%v: off by %d at %d the noise is %v, want %v", p, off, place, noise, far)
				}
			}
		}
	}
}

// With another secret a pair has a noise of nearly the product, as good as always.
func TestNoiseOfAnotherSecret(t *testing.T) {
	d := dice(814)
	for _, n := range ringSizes[1:] {
		p := impl.Params{N: n, T: 2, Noise: 4, Primes: fittingPrimes(n, impl.MaxRow, -1)}
		x := keyArgs{p: p, s: slices.Repeat([]int{1}, n), words: d.wordsFor(impl.MaxPrime, 500)}
		pairs, _ := askPairs(t, "PublicFrom", x)
		for place := range n {
			other := slices.Clone(x.s)
			other[place] = -1
			if noise := askNoise(t, p, other, pairs[0], make([]int, n)); noise.Cmp(powerOfTwo(90)) < 0 {
				t.Errorf("%v: with the secret %v the noise is %v", p, other, noise)
			}
		}
	}
}

// What is made hangs on the words from at up to the next at alone.
func TestOnlyWordsThatAKeyTakesCount(t *testing.T) {
	d := dice(815)
	for _, p := range fewParams() {
		x := keyArgs{p: p, s: d.small(p.N, 1), other: d.small(p.N, impl.MaxN), g: p.N + 1, words: d.wordsOf(p), at: d.below(60)}
		for _, f := range keyFunctions() {
			if !f.words {
				continue
			}
			want := f.call(x)
			taken := x.words[x.at:want.next]
			y := x
			y.words = slices.Concat(d.wordsFor(p.Primes[0], x.at), taken, d.wordsFor(p.Primes[0], 5))
			if got := f.call(y); !want.ok || !got.same(want) {
				t.Errorf("%s among other words = %v, want %v", f.name, got, want)
			}
			y.words, y.at = taken, 0
			if got := f.call(y); !got.ok || got.next != len(taken) || !slices.Equal(got.numbers, want.numbers) || !slices.EqualFunc(got.pairs, want.pairs, samePair) {
				t.Errorf("%s of what was taken = %v, want %v", f.name, got, want)
			}
		}
	}
}

func TestDrawnKeys(t *testing.T) {
	d := dice(816)
	for range 300 {
		p := d.params()
		x := keyArgs{p: p, s: d.small(p.N, 1), other: d.small(p.N, impl.MaxN), g: 2*d.below(p.N) + 1, words: d.wordsOf(p), want: d.small(p.N, 1<<d.below(41))}
		x.words = x.words[:d.below(len(x.words))]
		x.at = d.below(len(x.words) + 1)
		x.k = impl.Pair{A: d.rows(spaceOf(p), false).Rows, B: d.rows(spaceOf(p), false).Rows}
		checkAllOfKeys(t, x)
	}
}

// Reckoned by hand: the secret is 1 - X, and X X is -1.
func TestNamedKeys(t *testing.T) {
	p := impl.Params{N: 2, T: 17, Noise: 1, Primes: []int{97, 193}}
	x := keyArgs{p: p, s: []int{1, -1}, other: []int{2, -3}, g: 3, words: []int{1, 2, 5, 6, 7, 8, 3, 2, 1, 2, 3, 4, 1, 0}, at: 2}
	// (5 + 6 X) (1 - X) is 11 + X, (7 + 8 X) (1 - X) is 15 + X; the noise is -X
	public := impl.Pair{A: [][]int{{5, 6}, {7, 8}}, B: [][]int{{86, 0}, {178, 0}}}
	// (1 + 2 X) (1 - X) is 3 + X, (3 + 4 X) (1 - X) is 7 + X; the noise is 1
	second := func(first []int, next []int) impl.Pair {
		return impl.Pair{A: [][]int{{1, 2}, {3, 4}}, B: [][]int{first, next}}
	}
	firstFor := func(row []int) impl.Pair { return impl.Pair{A: public.A, B: [][]int{row, {178, 0}}} }
	cases := []struct {
		name string
		want keyAnswer
	}{
		{"SecretFrom", secretTold([]int{-1, 0}, 4, true)},
		{"PublicFrom", pairTold(public, 8, true)},
		{"SwitchFrom", pairsTold([]impl.Pair{firstFor([]int{88, 94}), second([]int{93, 96}, []int{187, 189})}, 14, true)},
		// (1 - X) (1 - X) is -2 X
		{"RelinFrom", pairsTold([]impl.Pair{firstFor([]int{86, 95}), second([]int{93, 96}, []int{185, 190})}, 14, true)},
		// with X^3 for X it is 1 + X
		{"TurnFrom", pairsTold([]impl.Pair{firstFor([]int{87, 1}), second([]int{93, 96}, []int{186, 0})}, 14, true)},
	}
	for _, c := range cases {
		if got := keyFunction(c.name).call(x); !got.same(c.want) {
			t.Errorf("%s = %v, want %v", c.name, got, c.want)
		}
		checkKey(t, keyFunction(c.name), x)
	}
	for _, c := range []struct {
		want  []int
		noise int
	}{{[]int{0, 0}, 1}, {[]int{0, 1}, 0}, {[]int{5, 1}, 5}, {[]int{-5, 0}, 5}, {[]int{97 * 193, 1}, 0}, {[]int{97 * 193, 0}, 1}, {[]int{0, -9360}, 9360}, {[]int{0, -9361}, 9359}} {
		if noise := askNoise(t, p, x.s, public, c.want); noise.Cmp(bigOf(c.noise)) != 0 {
			t.Errorf("the noise for %v is %v, want %d", c.want, noise, c.noise)
		}
	}
}
