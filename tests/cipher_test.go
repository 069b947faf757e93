package tests

import (
	"math/big"
	"slices"
	"testing"

	"loop.example/g00133/impl"
)

// Promise 9: sums, products and turns of what is enciphered are what is enciphered of sums, products and turns, as long as the bounds are below the limit.

// roomyParams: every N, one prime to MaxRow, T of 2, even and odd, of 65536, and of one below the least prime.
func roomyParams() []impl.Params {
	var all []impl.Params
	for _, n := range ringSizes {
		great := fittingPrimes(n, impl.MaxRow, -1)
		for count := 1; count <= impl.MaxRow; count++ {
			for i, T := range []int{2, 3, 4, 16, 17, 256, 65535, greatestT} {
				all = append(all, impl.Params{N: n, T: T, Noise: []int{1, impl.MaxNoise, 3}[(i+count)%3], Primes: great[:count]})
			}
		}
		for _, least := range []int{fittingPrimes(n, 3, 1)[2], primeFor(n, 640*n+1, 1), primeFor(n, 40000*n+1, 1)} {
			all = append(all, impl.Params{N: n, T: mostT([]int{least}), Noise: 2, Primes: []int{great[0], great[1], least, great[2]}})
		}
	}
	return all
}

// keyring is what ciphers of one secret are made with, by the program.
type keyring struct {
	p      impl.Params
	s      []int
	public impl.Pair
	relin  []impl.Pair
	dice   *dice
}

func keyringOf(t *testing.T, p impl.Params, s []int, d *dice) keyring {
	t.Helper()
	x := keyArgs{p: p, s: s, words: d.wordsOf(p)}
	public, _ := askPairs(t, "PublicFrom", x)
	x.words = d.wordsOf(p)
	relin, _ := askPairs(t, "RelinFrom", x)
	return keyring{p: p, s: s, public: public[0], relin: relin, dice: d}
}

func (r keyring) turnPairs(t *testing.T, g int) []impl.Pair {
	t.Helper()
	pairs, _ := askPairs(t, "TurnFrom", keyArgs{p: r.p, s: r.s, g: g, words: r.dice.wordsOf(r.p)})
	return pairs
}

// The bounds and the limit are reckoned in the document's words.

func restOf(p impl.Params) *big.Int {
	return new(big.Int).Mod(bigProduct(p.Primes), bigOf(p.T))
}

func limitOf(p impl.Params) *big.Int {
	limit := new(big.Int).Mul(restOf(p), bigOf(p.T))
	limit.Sub(bigProduct(p.Primes), limit)
	if limit.Sign() < 0 {
		return new(big.Int)
	}
	return limit.Rsh(limit, 1)
}

func plainBound(p impl.Params) *big.Int {
	return new(big.Int).Mul(restOf(p), bigOf(p.T-1))
}

func freshBound(p impl.Params) *big.Int {
	return new(big.Int).Add(plainBound(p), bigOf(p.T*p.Noise*(2*p.N+1)))
}

func timesPlainBound(p impl.Params, a *big.Int) *big.Int {
	return new(big.Int).Mul(a, bigOf(p.N*(p.T/2)))
}

func timesBound(p impl.Params, a *big.Int, b *big.Int) *big.Int {
	factor := p.N * (p.T*(1+p.N)/2 + 1)
	bound := new(big.Int).Add(a, b)
	bound.Mul(bound, bigOf(factor))
	both := new(big.Int).Mul(a, b)
	both.Mul(both, bigOf(p.N))
	bound.Add(bound, both.Div(both, bigProduct(p.Primes)))
	return bound.Add(bound, bigOf(1+p.T*(1+p.N+p.N*p.N)/2+1))
}

func switchBound(p impl.Params, a *big.Int) *big.Int {
	sum := 0
	for _, prime := range p.Primes {
		sum += prime - 1
	}
	return new(big.Int).Add(a, bigOf(p.T*p.N*p.Noise*sum))
}

// held is a cipher beside the plain that it should be, and its bound.
type held struct {
	c     impl.Cipher
	m     []int
	bound *big.Int
}

func modT(p impl.Params, m []int) []int {
	rest := make([]int, len(m))
	for i, x := range m {
		rest[i] = intMod(x, p.T)
	}
	return rest
}

func addedInts(a []int, b []int) []int {
	sums := make([]int, len(a))
	for i := range a {
		sums[i] = a[i] + b[i]
	}
	return sums
}

func (r keyring) fresh(t *testing.T, m []int) held {
	t.Helper()
	c := askCipher(t, "Encrypt", cipherArgs{p: r.p, k: r.public, m: m, words: r.dice.wordsOf(r.p), at: r.dice.below(50)}, 2)
	return held{c: c, m: m, bound: freshBound(r.p)}
}

func (r keyring) sum(t *testing.T, a held, b held) held {
	t.Helper()
	c := askCipher(t, "AddCiphers", cipherArgs{p: r.p, a: a.c, b: b.c}, max(len(a.c.Parts), len(b.c.Parts)))
	return held{c: c, m: modT(r.p, addedInts(a.m, b.m)), bound: new(big.Int).Add(a.bound, b.bound)}
}

func (r keyring) opposite(t *testing.T, a held) held {
	t.Helper()
	c := askCipher(t, "NegCipher", cipherArgs{p: r.p, a: a.c}, len(a.c.Parts))
	return held{c: c, m: modT(r.p, intProduct(a.m, append([]int{-1}, make([]int, r.p.N-1)...))), bound: a.bound}
}

func (r keyring) plus(t *testing.T, a held, m []int) held {
	t.Helper()
	c := askCipher(t, "AddPlain", cipherArgs{p: r.p, a: a.c, m: m}, len(a.c.Parts))
	return held{c: c, m: modT(r.p, addedInts(a.m, m)), bound: new(big.Int).Add(a.bound, plainBound(r.p))}
}

func (r keyring) times(t *testing.T, a held, m []int) held {
	t.Helper()
	c := askCipher(t, "MulPlain", cipherArgs{p: r.p, a: a.c, m: m}, len(a.c.Parts))
	return held{c: c, m: modT(r.p, intProduct(a.m, m)), bound: timesPlainBound(r.p, a.bound)}
}

func (r keyring) product(t *testing.T, a held, b held) held {
	t.Helper()
	c := askCipher(t, "MulCiphers", cipherArgs{p: r.p, a: a.c, b: b.c}, 3)
	return held{c: c, m: modT(r.p, intProduct(a.m, b.m)), bound: timesBound(r.p, a.bound, b.bound)}
}

func (r keyring) switched(t *testing.T, a held) held {
	t.Helper()
	c := askCipher(t, "SwitchLast", cipherArgs{p: r.p, a: a.c, pairs: r.relin}, 2)
	return held{c: c, m: a.m, bound: switchBound(r.p, a.bound)}
}

func (r keyring) turned(t *testing.T, a held, g int, pairs []impl.Pair) held {
	t.Helper()
	c := askCipher(t, "TurnCipher", cipherArgs{p: r.p, a: a.c, g: g, pairs: pairs}, 2)
	return held{c: c, m: modT(r.p, intTurned(a.m, g)), bound: switchBound(r.p, a.bound)}
}

// tally counts what was deciphered below the limit, so that no test goes by without having asked.
type tally map[string]int

// holds asks for the plain where the bound is below the limit.
func (y tally) holds(t *testing.T, name string, r keyring, a held) {
	t.Helper()
	if a.bound.Cmp(limitOf(r.p)) >= 0 {
		return
	}
	y[name]++
	if m := askPlain(t, r.p, r.s, a.c); !slices.Equal(m, a.m) {
		t.Errorf("%s: %v, secret %v: deciphered %v, want %v", name, r.p, r.s, m, a.m)
	}
}

func (y tally) atLeast(t *testing.T, count int, names ...string) {
	t.Helper()
	for _, name := range names {
		if y[name] < count {
			t.Errorf("%s was asked but %d times: %v", name, y[name], y)
		}
	}
}

func TestWhatIsEncipheredIsDeciphered(t *testing.T) {
	d, asked := dice(901), tally{}
	for _, p := range slices.Concat(goodParams(), roomyParams()) {
		secrets := secretsOf(p.N, &d)
		for i, m := range append(edgePlains(p), d.plain(p)) {
			r := keyringOf(t, p, secrets[i%len(secrets)], &d)
			asked.holds(t, "fresh", r, r.fresh(t, m))
		}
	}
	asked.atLeast(t, 2000, "fresh")
}

// Under the secret a fresh cipher is D m, and e, and f s, less u times the noise of the public pair: to the last unit.
func TestWhatAFreshCipherIsUnderTheSecret(t *testing.T) {
	d := dice(902)
	for _, p := range slices.Concat(goodParams(), roomyParams()) {
		s, words, at := d.small(p.N, 1), d.wordsOf(p), d.below(100)
		pairs, next := askPairs(t, "PublicFrom", keyArgs{p: p, s: s, words: words, at: at})
		noise := drawPair(t, p, words, at).e
		m := d.plain(p)
		c, after, ok := impl.Encrypt(p, pairs[0], m, words, next)
		u, atE, okU := impl.TernaryRow(words, next, p.N)
		e, atF, okE := impl.NoiseRow(words, atE, p.Noise, p.N)
		f, end, okF := impl.NoiseRow(words, atF, p.Noise, p.N)
		if !ok || !okU || !okE || !okF || after != end {
			t.Fatalf("%v: the next at is %d, and %d when drawn", p, after, end)
		}
		want := bigSums(bigScaled(bigsOf(m), stepOf(p)), bigsOf(addedInts(e, intProduct(f, s))))
		want = bigDifferences(want, bigPolyProduct(bigsOf(noise), bigsOf(u)))
		checkOpened(t, p, s, c, want)
	}
}

// checkOpened asks what a cipher is under a secret, by the program's own rows.
func checkOpened(t *testing.T, p impl.Params, s []int, c impl.Cipher, want []*big.Int) {
	t.Helper()
	space, secret := spaceOf(p), impl.Rows{Rows: leftRows(p, s)}
	sum := impl.Rows{Rows: c.Parts[len(c.Parts)-1]}
	for _, part := range slices.Backward(c.Parts[:len(c.Parts)-1]) {
		product := askRows(t, "MulRows", rowsArgs{space: space, a: sum, b: secret})
		sum = askRows(t, "AddRows", rowsArgs{space: space, a: product, b: impl.Rows{Rows: part}})
	}
	for i, b := range bigsFrom(askWholes(t, space, sum)) {
		if b.Cmp(centredBig(want[i], bigProduct(p.Primes))) != 0 {
			t.Fatalf("%v, secret %v: under it %v is %v at %d, want %v", p, s, c, b, i, want[i])
		}
	}
}

// The Parts of a fresh cipher by the program's own rows, of coins one behind the other: u, then e, then f.
func TestPartsOfAFreshCipher(t *testing.T) {
	d := dice(903)
	for _, p := range slices.Concat(goodParams(), roomyParams()) {
		space := spaceOf(p)
		rows := func(small []int) impl.Rows { return impl.Rows{Rows: leftRows(p, small)} }
		k, m, words, at := d.pairsOf(p, 1)[0], d.plain(p), d.wordsOf(p), d.below(100)
		u, next, _ := impl.TernaryRow(words, at, p.N)
		e, next, _ := impl.NoiseRow(words, next, p.Noise, p.N)
		f, next, _ := impl.NoiseRow(words, next, p.Noise, p.N)
		step := askRows(t, "ScaleRows", rowsArgs{space: space, a: rows(m), by: wholeFrom(stepOf(p))})
		first := askRows(t, "MulRows", rowsArgs{space: space, a: impl.Rows{Rows: k.B}, b: rows(u)})
		first = askRows(t, "AddRows", rowsArgs{space: space, a: first, b: rows(e)})
		first = askRows(t, "AddRows", rowsArgs{space: space, a: first, b: step})
		second := askRows(t, "MulRows", rowsArgs{space: space, a: impl.Rows{Rows: k.A}, b: rows(u)})
		second = askRows(t, "AddRows", rowsArgs{space: space, a: second, b: rows(f)})
		got := freshTold(impl.Encrypt(p, k, m, words, at))
		if want := freshTold(impl.Cipher{Parts: [][][]int{first.Rows, second.Rows}}, next, true); !got.same(want) {
			t.Errorf("%v: Encrypt = %v, want %v", p, got, want)
		}
	}
}

// Each word is another one, and stands for itself: u, e and f alone are seen where the pair and the plain are noughts.
func TestWhichWordsACipherTakes(t *testing.T) {
	p := impl.Params{N: 4, T: 3, Noise: impl.MaxNoise, Primes: fittingPrimes(4, 2, -1)}
	words := []int{9, 9, 1, 2, 0, 4, 1, 3, 7, 15, 31 << 16, 63, 127, 255, 5}
	none := leftRows(p, make([]int, 4))
	one := leftRows(p, []int{1, 0, 0, 0})
	cases := []struct {
		k    impl.Pair
		want [][]int
	}{
		{impl.Pair{A: none, B: none}, [][]int{{1, 2, 3, 4}, {-5, 6, 7, 8}}},
		{impl.Pair{A: none, B: one}, [][]int{{2, 1, 3, 5}, {-5, 6, 7, 8}}},
		{impl.Pair{A: one, B: none}, [][]int{{1, 2, 3, 4}, {-4, 5, 7, 9}}},
	}
	for _, c := range cases {
		got := freshTold(impl.Encrypt(p, c.k, make([]int, 4), words, 2))
		want := freshTold(impl.Cipher{Parts: [][][]int{leftRows(p, c.want[0]), leftRows(p, c.want[1])}}, 14, true)
		if !got.same(want) {
			t.Errorf("Encrypt with %v = %v, want %v", c.k, got, want)
		}
	}
}

func TestSumsAndOppositesOfCiphers(t *testing.T) {
	d, asked := dice(904), tally{}
	for _, p := range slices.Concat(goodParams(), roomyParams()) {
		r := keyringOf(t, p, d.small(p.N, 1), &d)
		plains := append(edgePlains(p), d.plain(p))
		for i, m := range plains {
			a, b := r.fresh(t, m), r.fresh(t, plains[(5*i+1)%len(plains)])
			sum := r.sum(t, a, b)
			asked.holds(t, "sum", r, sum)
			asked.holds(t, "opposite", r, r.opposite(t, a))
			asked.holds(t, "difference", r, r.sum(t, sum, r.opposite(t, b)))
		}
	}
	asked.atLeast(t, 2000, "sum", "opposite", "difference")
}

func TestPlainsWithCiphers(t *testing.T) {
	d, asked := dice(905), tally{}
	for _, p := range slices.Concat(goodParams(), roomyParams()) {
		r := keyringOf(t, p, d.small(p.N, 1), &d)
		plains := append(edgePlains(p), d.plain(p))
		for i, m := range plains {
			a := r.fresh(t, plains[(5*i+1)%len(plains)])
			asked.holds(t, "plus plain", r, r.plus(t, a, m))
			asked.holds(t, "times plain", r, r.times(t, a, m))
			asked.holds(t, "times and plus plain", r, r.plus(t, r.times(t, a, m), d.plain(p)))
		}
	}
	asked.atLeast(t, 1000, "plus plain", "times plain", "times and plus plain")
}

func TestProductsOfCiphers(t *testing.T) {
	d, asked := dice(906), tally{}
	for _, p := range roomyParams() {
		r := keyringOf(t, p, d.small(p.N, 1), &d)
		plains := append(edgePlains(p), d.plain(p))
		for i := 0; i < len(plains); i += 2 {
			a, b := r.fresh(t, plains[i]), r.fresh(t, plains[(5*i+1)%len(plains)])
			product := r.product(t, a, b)
			switched := r.switched(t, product)
			asked.holds(t, "product", r, product)
			asked.holds(t, "product switched", r, switched)
			asked.holds(t, "square", r, r.switched(t, r.product(t, a, a)))
			// a part that lacks in a sum is nought
			asked.holds(t, "product and a fresh one", r, r.sum(t, product, a))
			asked.holds(t, "a fresh one and a product", r, r.sum(t, b, product))
			asked.holds(t, "two products", r, r.switched(t, r.sum(t, product, r.opposite(t, product))))
			asked.holds(t, "product plus plain", r, r.plus(t, product, d.plain(p)))
			asked.holds(t, "product times plain", r, r.times(t, product, d.plain(p)))
		}
	}
	asked.atLeast(t, 400, "product", "product switched", "square", "product and a fresh one", "a fresh one and a product", "two products", "product plus plain", "product times plain")
}

// Products of products, as long as the bound stays below the limit.
func TestProductsOfProducts(t *testing.T) {
	d, deepest := dice(907), 0
	for _, p := range roomyParams() {
		r := keyringOf(t, p, d.small(p.N, 1), &d)
		a := r.fresh(t, d.plain(p))
		for depth := 1; depth <= 20; depth++ {
			a = r.switched(t, r.product(t, a, a))
			if a.bound.Cmp(limitOf(p)) >= 0 {
				break
			}
			tally{}.holds(t, "deep product", r, a)
			deepest = max(deepest, depth)
			if depth%2 == 0 {
				a = r.sum(t, a, r.fresh(t, d.plain(p)))
			}
		}
	}
	if deepest < 8 {
		t.Errorf("products were asked but to a depth of %d", deepest)
	}
}

func TestTurnsOfCiphers(t *testing.T) {
	d, asked := dice(908), tally{}
	for _, p := range slices.Concat(fewParams(), roomyParams()) {
		r := keyringOf(t, p, d.small(p.N, 1), &d)
		plains := append(edgePlains(p), d.plain(p))
		for g := 1; g < 2*p.N; g += 2 {
			pairs := r.turnPairs(t, g)
			a := r.turned(t, r.fresh(t, plains[g%len(plains)]), g, pairs)
			asked.holds(t, "turn", r, a)
			asked.holds(t, "turn twice", r, r.turned(t, a, g, pairs))
		}
	}
	asked.atLeast(t, 500, "turn", "turn twice")
}

// One step after the other, drawn, over ciphers of two and of three Parts.
func TestDrawnReckonings(t *testing.T) {
	d, asked := dice(909), tally{}
	for _, p := range roomyParams() {
		r := keyringOf(t, p, d.small(p.N, 1), &d)
		g := 2*d.below(p.N) + 1
		pairs := r.turnPairs(t, g)
		pool := []held{r.fresh(t, d.plain(p)), r.fresh(t, d.plain(p)), r.fresh(t, d.plain(p))}
		for range 25 {
			a, b := pool[d.below(len(pool))], pool[d.below(len(pool))]
			var c held
			two := len(a.c.Parts) == 2 && len(b.c.Parts) == 2
			switch step := d.below(7); {
			case step == 0:
				c = r.opposite(t, a)
			case step == 1:
				c = r.plus(t, a, d.plain(p))
			case step == 2:
				c = r.times(t, a, d.plain(p))
			case step == 3 && two:
				c = r.product(t, a, b)
			case step == 4 && len(a.c.Parts) == 2:
				c = r.turned(t, a, g, pairs)
			case len(a.c.Parts) == 3:
				c = r.switched(t, a)
			default:
				c = r.sum(t, a, b)
			}
			asked.holds(t, "drawn", r, c)
			if c.bound.Cmp(limitOf(p)) < 0 {
				pool[d.below(len(pool))] = c
			}
		}
	}
	asked.atLeast(t, 1000, "drawn")
}

// drawnNoise are the noises of as many pairs as there are primes, as the program's own rows draw them.
func drawnNoise(t *testing.T, p impl.Params, words []int) [][]int {
	t.Helper()
	var all [][]int
	at := 0
	for range p.Primes {
		drawn := drawPair(t, p, words, at)
		all, at = append(all, drawn.e), drawn.next
	}
	return all
}

// lessNoise takes away what the pairs' noise makes of the numbers that last has at each prime.
func lessNoise(numbers []*big.Int, last [][]int, noise [][]int) []*big.Int {
	for i, e := range noise {
		numbers = bigDifferences(numbers, bigPolyProduct(bigsOf(last[i]), bigsOf(e)))
	}
	return numbers
}

// Any cipher of three Parts is the same once its last one is switched, but for the pairs' noise: to the last unit.
func TestSwitchLastUnderTheSecret(t *testing.T) {
	d := dice(910)
	for _, p := range slices.Concat(goodParams(), roomyParams()) {
		s, words := d.small(p.N, 1), d.wordsOf(p)
		pairs, _ := askPairs(t, "RelinFrom", keyArgs{p: p, s: s, words: words})
		a := d.cipher(p, 3)
		c := askCipher(t, "SwitchLast", cipherArgs{p: p, a: a, pairs: pairs}, 2)
		checkOpened(t, p, s, c, lessNoise(openedNumbers(p, s, a), a.Parts[2], drawnNoise(t, p, words)))
	}
}

// Any cipher of two Parts is turned as what it is under the secret, but for the pairs' noise.
func TestTurnCipherUnderTheSecret(t *testing.T) {
	d := dice(911)
	for _, p := range goodParams() {
		for g := 1; g < 2*p.N; g += 2 {
			s, words := d.small(p.N, 1), d.wordsOf(p)
			pairs, _ := askPairs(t, "TurnFrom", keyArgs{p: p, s: s, g: g, words: words})
			a := d.cipher(p, 2)
			c := askCipher(t, "TurnCipher", cipherArgs{p: p, a: a, g: g, pairs: pairs}, 2)
			second := askRows(t, "TurnRows", rowsArgs{space: spaceOf(p), a: impl.Rows{Rows: a.Parts[1]}, g: g})
			checkOpened(t, p, s, c, lessNoise(bigTurned(openedNumbers(p, s, a), g), second.Rows, drawnNoise(t, p, words)))
		}
	}
}

// nearHalf are the numbers T of which lies nearest to half way between two multiples of q, below it and above: q is odd, so none lies just there.
func nearHalf(p impl.Params) (*big.Int, *big.Int) {
	q, half := bigProduct(p.Primes), halfOf(spaceOf(p))
	inverse := new(big.Int).ModInverse(bigOf(p.T), q)
	below := new(big.Int).Mul(inverse, half)
	above := new(big.Int).Mul(inverse, new(big.Int).Add(half, bigOf(1)))
	return centredBig(below, q), centredBig(above, q)
}

// Every number there is, of each of the least primes and T: none of them lies just half way, whatever T is.
func TestEveryNumberOfASmallCipher(t *testing.T) {
	for _, l := range [][]int{{5}, {13}, {17}, {13, 5}} {
		q := intOf(bigProduct(l))
		for T := 2; T < slices.Min(l); T++ {
			p := impl.Params{N: 2, T: T, Noise: 1, Primes: l}
			for number := range q {
				if 2*T*number%(2*q) == q {
					t.Fatal("half way", p, number)
				}
				c := impl.Cipher{Parts: [][][]int{leftRows(p, []int{number, q - 1 - number}), leftRows(p, []int{0, 0})}}
				checkCipher(t, cipherFunction("Decrypt"), cipherArgs{p: p, s: []int{0, 0}, a: c})
				x := cipherArgs{p: p, a: c}
				for _, by := range []int{1, q / 2, q/2 + 1, q - 1, number} {
					x.b = impl.Cipher{Parts: [][][]int{leftRows(p, []int{by, 0}), leftRows(p, []int{0, 1})}}
					checkCipher(t, cipherFunction("MulCiphers"), x)
				}
			}
		}
	}
}

// downShare is T a / q, down.
func downShare(p impl.Params, a *big.Int) *big.Int {
	share := new(big.Int).Mul(a, bigOf(p.T))
	return share.Div(share, bigProduct(p.Primes))
}

// What is rounded goes down just below the half, and up just above it, in every place.
func TestDecryptBesideTheHalf(t *testing.T) {
	for _, p := range slices.Concat(goodParams(), roomyParams()) {
		below, above := nearHalf(p)
		for place := range p.N {
			for up, number := range []*big.Int{below, above} {
				numbers := noughts(p.N)
				numbers[place] = number
				want := make([]int, p.N)
				want[place] = intOf(new(big.Int).Mod(new(big.Int).Add(downShare(p, number), bigOf(up)), bigOf(p.T)))
				if m := askPlain(t, p, make([]int, p.N), cipherMeaning(p, numbers, noughts(p.N))); !slices.Equal(m, want) {
					t.Errorf("%v: %v is deciphered as %v, want %v", p, number, m, want)
				}
			}
		}
	}
}

// The same for products with 1 and -1, in each of the three Parts.
func TestMulCiphersBesideTheHalf(t *testing.T) {
	for _, p := range slices.Concat(goodParams(), roomyParams()) {
		below, above := nearHalf(p)
		for up, number := range []*big.Int{below, above} {
			for _, sign := range []int{1, -1} {
				one, far := noughts(p.N), noughts(p.N)
				one[0].SetInt64(int64(sign))
				far[p.N-1].Set(number)
				signed := new(big.Int).Mul(number, bigOf(sign))
				// less the number itself what lies below the half lies above it
				want := new(big.Int).Add(downShare(p, signed), bigOf(up^((1-sign)/2)))
				for part := range 3 {
					parts := [][]*big.Int{noughts(p.N), noughts(p.N), noughts(p.N)}
					parts[part][p.N-1] = want
					a, b := [][]*big.Int{noughts(p.N), noughts(p.N)}, [][]*big.Int{noughts(p.N), noughts(p.N)}
					a[part/2], b[(part+1)/2] = far, one
					got := cipherTold(impl.MulCiphers(p, cipherMeaning(p, a...), cipherMeaning(p, b...)))
					if !got.same(cipherTold(cipherMeaning(p, parts...), true)) {
						t.Errorf("%v: %v times %d is %v in part %d, want %v", p, number, sign, got, part, want)
					}
				}
			}
		}
	}
}

// The middle part is put together first and rounded then: two numbers that lie near half way make nearly a whole one.
func TestMiddlePartIsRoundedOnce(t *testing.T) {
	for _, p := range slices.Concat(goodParams(), roomyParams()) {
		for _, number := range []func() *big.Int{
			func() *big.Int { below, _ := nearHalf(p); return below },
			func() *big.Int { _, above := nearHalf(p); return above },
		} {
			far, one := noughts(p.N), noughts(p.N)
			far[0].Set(number())
			one[0].SetInt64(1)
			c := cipherMeaning(p, far, one)
			want := wantMulCiphers(cipherArgs{p: p, a: c, b: c})
			twice := noughts(p.N)
			twice[0].Lsh(number(), 1)
			if middle := rowsMeaning(spaceOf(p), nearestShares(p, twice), false); !sameLists(want.cipher.Parts[1], middle.Rows) {
				t.Fatal("the second reckoning is off", p)
			}
			if got := cipherTold(impl.MulCiphers(p, c, c)); !got.same(want) {
				t.Errorf("%v: %v squared is %v, want %v", p, c, got, want)
			}
		}
	}
}

// Products are those of whole numbers: the greatest ones go far beyond q, and only X^N + 1 takes something away.
func TestTheGreatestProducts(t *testing.T) {
	for _, p := range roomyParams() {
		half := halfOf(spaceOf(p))
		for _, sign := range []int{1, -1} {
			all := noughts(p.N)
			for i := range all {
				all[i].Mul(half, bigOf(sign))
			}
			turns := noughts(p.N)
			for i := range turns {
				turns[i].Mul(half, bigOf(1-2*(i%2)))
			}
			for _, x := range []cipherArgs{
				{p: p, a: cipherMeaning(p, all, all), b: cipherMeaning(p, all, all)},
				{p: p, a: cipherMeaning(p, turns, all), b: cipherMeaning(p, all, turns)},
			} {
				checkCipher(t, cipherFunction("MulCiphers"), x)
			}
			// at the last place all N products have the same sign: N q / 4 T and more
			got := askCipher(t, "MulCiphers", cipherArgs{p: p, a: cipherMeaning(p, all, all), b: cipherMeaning(p, all, all)}, 3)
			square := new(big.Int).Mul(half, half)
			want := nearestShares(p, []*big.Int{square.Mul(square, bigOf(p.N))})
			for i, prime := range p.Primes {
				if left := intOf(new(big.Int).Mod(want[0], bigOf(prime))); got.Parts[0][i][p.N-1] != left || got.Parts[2][i][p.N-1] != left {
					t.Errorf("%v: the last number is %d by %d, want %d", p, got.Parts[0][i][p.N-1], prime, left)
				}
			}
		}
	}
}

// Two ciphers may be added or multiplied in either order, and a cipher and its opposite are nothing.
func TestOrderOfCiphers(t *testing.T) {
	d := dice(912)
	for _, p := range goodParams() {
		for _, counts := range [][2]int{{2, 2}, {2, 3}, {3, 3}} {
			a, b := d.cipher(p, counts[0]), d.cipher(p, counts[1])
			one, other := cipherTold(impl.AddCiphers(p, a, b)), cipherTold(impl.AddCiphers(p, b, a))
			if !one.ok || !one.same(other) || len(one.cipher.Parts) != counts[1] {
				t.Errorf("%v: AddCiphers = %v, and %v the other way", p, one, other)
			}
			sum := askCipher(t, "AddCiphers", cipherArgs{p: p, a: b, b: askCipher(t, "NegCipher", cipherArgs{p: p, a: b}, counts[1])}, counts[1])
			for _, part := range sum.Parts {
				if !sameLists(part, leftRows(p, make([]int, p.N))) {
					t.Errorf("%v: a cipher and its opposite are %v", p, sum)
				}
			}
		}
		a, b := d.cipher(p, 2), d.cipher(p, 2)
		if one, other := cipherTold(impl.MulCiphers(p, a, b)), cipherTold(impl.MulCiphers(p, b, a)); !one.ok || !one.same(other) {
			t.Errorf("%v: MulCiphers = %v, and %v the other way", p, one, other)
		}
	}
}

// A plain of one number without X: that many ciphers together, or with its sign turned where it is above T / 2 (down) less T.
func TestMulPlainOfEveryNumber(t *testing.T) {
	d := dice(913)
	for _, n := range ringSizes {
		for _, T := range []int{2, 3, 4, 5, 16, 17} {
			p := impl.Params{N: n, T: T, Noise: 1, Primes: fittingPrimes(n, 3, -1)}
			a := d.cipher(p, 2+T%2)
			for x := range T {
				times := x
				if 2*x > T {
					times = x - T
				}
				want := askCipher(t, "AddCiphers", cipherArgs{p: p, a: a, b: askCipher(t, "NegCipher", cipherArgs{p: p, a: a}, len(a.Parts))}, len(a.Parts))
				step := a
				if times < 0 {
					step = askCipher(t, "NegCipher", cipherArgs{p: p, a: a}, len(a.Parts))
				}
				for range max(times, -times) {
					want = askCipher(t, "AddCiphers", cipherArgs{p: p, a: want, b: step}, len(a.Parts))
				}
				m := append([]int{x}, make([]int, n-1)...)
				if got := cipherTold(impl.MulPlain(p, a, m)); !got.same(cipherTold(want, true)) {
					t.Errorf("%v: MulPlain by %d = %v, want %v", p, x, got, want)
				}
			}
		}
	}
}

// A plain added to a cipher of noughts is that plain, without any noise.
func TestPlainsInCiphersOfNoughts(t *testing.T) {
	d := dice(914)
	for _, p := range slices.Concat(goodParams(), roomyParams()) {
		for _, parts := range twoOrThree {
			nothing := impl.Cipher{}
			for range parts {
				nothing.Parts = append(nothing.Parts, leftRows(p, make([]int, p.N)))
			}
			r := keyring{p: p, s: d.small(p.N, 1)}
			for _, m := range append(edgePlains(p), d.plain(p)) {
				a := r.plus(t, held{c: nothing, m: make([]int, p.N), bound: new(big.Int)}, m)
				checkOpened(t, p, r.s, a.c, bigScaled(bigsOf(m), stepOf(p)))
				tally{}.holds(t, "plain", r, a)
			}
		}
	}
}

// What is made hangs on the words from at up to the next at alone.
func TestOnlyWordsThatACipherTakesCount(t *testing.T) {
	d := dice(915)
	for _, p := range goodParams() {
		x := cipherArgs{p: p, k: d.pairsOf(p, 1)[0], m: d.plain(p), words: d.wordsOf(p), at: d.below(60)}
		encrypt := cipherFunction("Encrypt")
		want := encrypt.call(x)
		taken := x.words[x.at:want.next]
		y := x
		y.words = slices.Concat(d.wordsFor(3, x.at), taken, d.wordsFor(3, 5))
		if got := encrypt.call(y); !want.ok || !got.same(want) {
			t.Errorf("%v: Encrypt among other words = %v, want %v", p, got, want)
		}
		y.words, y.at = taken, 0
		if got := encrypt.call(y); !got.ok || got.next != len(taken) || !sameCipher(got.cipher, want.cipher) {
			t.Errorf("%v: Encrypt of what was taken = %v, want %v", p, got, want)
		}
	}
}

// Reckoned by hand: q is 97 193 = 18721, D is 1101, X X is -1.
func TestNamedCiphers(t *testing.T) {
	p := impl.Params{N: 2, T: 17, Noise: 1, Primes: []int{97, 193}}
	cipher := func(parts ...[]int) impl.Cipher {
		var c impl.Cipher
		for _, numbers := range parts {
			c.Parts = append(c.Parts, leftRows(p, numbers))
		}
		return c
	}
	pair := func(b []int, a []int) impl.Pair { return impl.Pair{A: leftRows(p, a), B: leftRows(p, b)} }
	// the row of 500 + 600 X at 97 is 15 + 18 X, at 193 it is 114 + 21 X
	pairs := []impl.Pair{pair([]int{1, 0}, []int{0, 1}), pair([]int{2, 0}, []int{0, 3})}
	x := cipherArgs{
		p: p, s: []int{1, -1}, m: []int{3, 16}, words: []int{7, 1, 2, 1, 2, 2, 3, 9}, at: 1, g: 3,
		k: pair([]int{100, 200}, []int{-50, 10}), pairs: pairs, a: cipher([]int{1000, -2000}, []int{500, 600}), b: cipher([]int{7, 3000}, []int{-400, 0}),
	}
	three := x
	three.a = cipher([]int{1000, -2000}, []int{5, 6}, []int{500, 600})
	over := x
	over.a, over.b = cipher([]int{10000, 0}, []int{0, 0}), cipher([]int{2, 0}, []int{0, 2})
	cases := []struct {
		name string
		x    cipherArgs
		want cipherAnswer
	}{
		// u is 1 - X, e is 1 - X, f is -1: (100 + 200 X) (1 - X) is 300 + 100 X, (-50 + 10 X) (1 - X) is -40 + 60 X
		{"Encrypt", x, freshTold(cipher([]int{300 + 1 + 3303, 100 - 1 + 17616}, []int{-40 - 1, 60}), 7, true)},
		// (500 + 600 X) (1 - X) is 1100 + 100 X, together 2100 - 1900 X: 35700 / 18721 is 1.9, -32300 / 18721 is -1.7
		{"Decrypt", x, plainTold([]int{2, 15}, true)},
		// (1 - X) (1 - X) is -2 X, times 500 + 600 X 1200 - 1000 X; (5 + 6 X) (1 - X) is 11 + X: 2211 - 2999 X, so 2.01 and -2.7
		{"Decrypt", three, plainTold([]int{2, 14}, true)},
		{"AddCiphers", x, cipherTold(cipher([]int{1007, 1000}, []int{100, 600}), true)},
		{"AddCiphers", three, cipherTold(cipher([]int{1007, 1000}, []int{-395, 6}, []int{500, 600}), true)},
		{"NegCipher", x, cipherTold(cipher([]int{-1000, 2000}, []int{-500, -600}), true)},
		{"AddPlain", x, cipherTold(cipher([]int{1000 + 3303, -2000 + 17616}, []int{500, 600}), true)},
		{"AddPlain", three, cipherTold(cipher([]int{4303, 15616}, []int{5, 6}, []int{500, 600}), true)},
		// 16 is -1: (1000 - 2000 X) (3 - X) is 1000 - 7000 X, (500 + 600 X) (3 - X) is 2100 + 1300 X
		{"MulPlain", x, cipherTold(cipher([]int{1000, -7000}, []int{2100, 1300}), true)},
		// 6007000 + 2986000 X, -2196500 + 2304200 X, -200000 - 240000 X, each times 17 / 18721: 5454.8, 2711.5004; -1994.6, 2092.4; -181.6, -217.9
		{"MulCiphers", x, cipherTold(cipher([]int{5455, 2712}, []int{-1995, 2092}, []int{-182, -218}), true)},
		// 10000 is more than half of q, so it is -8721: -17442 17 / 18721 is -15.8
		{"MulCiphers", over, cipherTold(cipher([]int{-16, 0}, []int{0, -16}, []int{0, 0}), true)},
		// 15 and 2 114 is 243, 18 and 2 21 is 60; (15 + 18 X) X is -18 + 15 X, (114 + 21 X) 3 X is -63 + 342 X
		{"SwitchLast", three, cipherTold(cipher([]int{1243, -1940}, []int{5 - 81, 6 + 357}), true)},
		// X^3 is -X: 1000 + 2000 X and 500 - 600 X, at 97 15 + 79 X, at 193 114 + 172 X
		{"TurnCipher", x, cipherTold(cipher([]int{1000 + 243, 2000 + 79 + 344}, []int{-79 - 516, 15 + 342}), true)},
	}
	for _, c := range cases {
		got := cipherFunction(c.name).call(c.x)
		if !got.same(c.want) {
			t.Errorf("%s = %v, want %v", c.name, got, c.want)
		}
		checkCipher(t, cipherFunction(c.name), c.x)
	}
}
