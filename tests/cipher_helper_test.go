package tests

import (
	"fmt"
	"math/big"
	"slices"
	"testing"

	"loop.example/g00133/impl"
)

// cipherArgs hold what any function of ciphers is given; each takes what it needs.
type cipherArgs struct {
	p     impl.Params
	s     []int
	m     []int
	words []int
	at    int
	g     int
	k     impl.Pair
	pairs []impl.Pair
	a     impl.Cipher
	b     impl.Cipher
}

// cipherAnswer is what any function of ciphers answers.
type cipherAnswer struct {
	cipher  impl.Cipher
	numbers []int
	next    int
	ok      bool
}

func sameCipher(a impl.Cipher, b impl.Cipher) bool {
	return slices.EqualFunc(a.Parts, b.Parts, sameLists)
}

func (a cipherAnswer) same(other cipherAnswer) bool {
	return sameCipher(a.cipher, other.cipher) && slices.Equal(a.numbers, other.numbers) && a.next == other.next && a.ok == other.ok
}

// lists are all lists of numbers that are told.
func (a cipherAnswer) lists() [][]int {
	return append(slices.Concat(a.cipher.Parts...), a.numbers)
}

// outerLists are all lists of rows that are told, also behind their length.
func (a cipherAnswer) outerLists() [][][]int {
	var outer [][][]int
	for _, part := range a.cipher.Parts {
		outer = append(outer, part[:cap(part)])
	}
	return outer
}

func cipherTold(c impl.Cipher, ok bool) cipherAnswer {
	return cipherAnswer{cipher: c, ok: ok}
}

func freshTold(c impl.Cipher, next int, ok bool) cipherAnswer {
	return cipherAnswer{cipher: c, next: next, ok: ok}
}

func plainTold(m []int, ok bool) cipherAnswer {
	return cipherAnswer{numbers: m, ok: ok}
}

// ofCipher is a function of ciphers, and what the document asks of it, by great numbers, where the arguments are as said.
type ofCipher struct {
	name string
	call func(x cipherArgs) cipherAnswer
	want func(x cipherArgs) cipherAnswer
	// parts: how many a cipher may have that it takes; none where it takes no cipher
	parts []int
	// what else it takes beside the params; two: a second cipher
	two, plain, secret, words, turn, pair, pairs bool
}

var twoOrThree = []int{2, 3}

func cipherFunctions() []ofCipher {
	good := func(x cipherArgs) cipherAnswer { return cipherAnswer{ok: true} }
	return []ofCipher{
		{name: "GoodPlain", plain: true, want: good, call: func(x cipherArgs) cipherAnswer { return cipherAnswer{ok: impl.GoodPlain(x.p, x.m)} }},
		{name: "GoodCipher", parts: twoOrThree, want: good, call: func(x cipherArgs) cipherAnswer { return cipherAnswer{ok: impl.GoodCipher(x.p, x.a)} }},
		{name: "Encrypt", plain: true, words: true, pair: true, want: wantEncrypt, call: func(x cipherArgs) cipherAnswer { return freshTold(impl.Encrypt(x.p, x.k, x.m, x.words, x.at)) }},
		{name: "Decrypt", secret: true, parts: twoOrThree, want: wantDecrypt, call: func(x cipherArgs) cipherAnswer { return plainTold(impl.Decrypt(x.p, x.s, x.a)) }},
		{name: "AddCiphers", parts: twoOrThree, two: true, want: wantAddCiphers, call: func(x cipherArgs) cipherAnswer { return cipherTold(impl.AddCiphers(x.p, x.a, x.b)) }},
		{name: "NegCipher", parts: twoOrThree, want: wantNegCipher, call: func(x cipherArgs) cipherAnswer { return cipherTold(impl.NegCipher(x.p, x.a)) }},
		{name: "AddPlain", parts: twoOrThree, plain: true, want: wantAddPlain, call: func(x cipherArgs) cipherAnswer { return cipherTold(impl.AddPlain(x.p, x.a, x.m)) }},
		{name: "MulPlain", parts: twoOrThree, plain: true, want: wantMulPlain, call: func(x cipherArgs) cipherAnswer { return cipherTold(impl.MulPlain(x.p, x.a, x.m)) }},
		{name: "MulCiphers", parts: []int{2}, two: true, want: wantMulCiphers, call: func(x cipherArgs) cipherAnswer { return cipherTold(impl.MulCiphers(x.p, x.a, x.b)) }},
		{name: "SwitchLast", parts: []int{3}, pairs: true, want: wantSwitchLast, call: func(x cipherArgs) cipherAnswer { return cipherTold(impl.SwitchLast(x.p, x.a, x.pairs)) }},
		{name: "TurnCipher", parts: []int{2}, turn: true, pairs: true, want: wantTurnCipher, call: func(x cipherArgs) cipherAnswer { return cipherTold(impl.TurnCipher(x.p, x.a, x.g, x.pairs)) }},
	}
}

func cipherFunction(name string) ofCipher {
	for _, f := range cipherFunctions() {
		if f.name == name {
			return f
		}
	}
	panic(name)
}

// partNumbers are the numbers from 0 on, below q, of each Part.
func partNumbers(p impl.Params, c impl.Cipher) [][]*big.Int {
	var all [][]*big.Int
	for _, part := range c.Parts {
		all = append(all, meantBy(spaceOf(p), impl.Rows{Rows: part}))
	}
	return all
}

// centredNumbers are those of each Part, from half of q on less q.
func centredNumbers(p impl.Params, c impl.Cipher) [][]*big.Int {
	all := partNumbers(p, c)
	for _, numbers := range all {
		for i, b := range numbers {
			numbers[i] = centredBig(b, bigProduct(p.Primes))
		}
	}
	return all
}

// cipherMeaning has the rows of these numbers as its Parts.
func cipherMeaning(p impl.Params, parts ...[]*big.Int) impl.Cipher {
	var c impl.Cipher
	for _, numbers := range parts {
		c.Parts = append(c.Parts, rowsMeaning(spaceOf(p), numbers, false).Rows)
	}
	return c
}

// stepOf is D.
func stepOf(p impl.Params) *big.Int {
	return new(big.Int).Div(bigProduct(p.Primes), bigOf(p.T))
}

// nearestShares are T a / q each, to the nearest, of two as near the greater: (2 T a and q) / 2 q, down.
func nearestShares(p impl.Params, a []*big.Int) []*big.Int {
	q := bigProduct(p.Primes)
	shares := noughts(len(a))
	for i, b := range a {
		shares[i].Mul(b, bigOf(2*p.T))
		shares[i].Div(shares[i].Add(shares[i], q), new(big.Int).Lsh(q, 1))
	}
	return shares
}

func wantEncrypt(x cipherArgs) cipherAnswer {
	coins := coinArgs{words: x.words, at: x.at, n: x.p.N, b: x.p.Noise}
	var drawn [3][]*big.Int
	for i, draw := range []func(x coinArgs) coinAnswer{wantTernary, wantNoise, wantNoise} {
		row := wantRow(draw)(coins)
		if !row.ok {
			return cipherAnswer{}
		}
		drawn[i], coins.at = bigsOf(row.numbers), row.next
	}
	pair := partNumbers(x.p, impl.Cipher{Parts: [][][]int{x.k.B, x.k.A}})
	first := bigSums(bigSums(bigPolyProduct(pair[0], drawn[0]), drawn[1]), bigScaled(bigsOf(x.m), stepOf(x.p)))
	second := bigSums(bigPolyProduct(pair[1], drawn[0]), drawn[2])
	return freshTold(cipherMeaning(x.p, first, second), coins.at, true)
}

// openedNumbers are what a cipher is under a secret, centred: each Part times the secret as often as its place says.
func openedNumbers(p impl.Params, s []int, c impl.Cipher) []*big.Int {
	sum, power := noughts(p.N), bigsOf(append([]int{1}, make([]int, p.N-1)...))
	for _, numbers := range partNumbers(p, c) {
		sum = bigSums(sum, bigPolyProduct(numbers, power))
		power = bigPolyProduct(power, bigsOf(s))
	}
	for i, b := range sum {
		sum[i] = centredBig(b, bigProduct(p.Primes))
	}
	return sum
}

func wantDecrypt(x cipherArgs) cipherAnswer {
	m := make([]int, x.p.N)
	for i, b := range nearestShares(x.p, openedNumbers(x.p, x.s, x.a)) {
		m[i] = intOf(b.Mod(b, bigOf(x.p.T)))
	}
	return plainTold(m, true)
}

func wantAddCiphers(x cipherArgs) cipherAnswer {
	long, short := partNumbers(x.p, x.a), partNumbers(x.p, x.b)
	if len(long) < len(short) {
		long, short = short, long
	}
	for i, numbers := range short {
		long[i] = bigSums(long[i], numbers)
	}
	return cipherTold(cipherMeaning(x.p, long...), true)
}

// wantEachPart has each Part changed in one way.
func wantEachPart(x cipherArgs, change func(numbers []*big.Int) []*big.Int) cipherAnswer {
	parts := partNumbers(x.p, x.a)
	for i, numbers := range parts {
		parts[i] = change(numbers)
	}
	return cipherTold(cipherMeaning(x.p, parts...), true)
}

func wantNegCipher(x cipherArgs) cipherAnswer {
	return wantEachPart(x, func(numbers []*big.Int) []*big.Int { return bigScaled(numbers, bigOf(-1)) })
}

func wantAddPlain(x cipherArgs) cipherAnswer {
	parts := partNumbers(x.p, x.a)
	parts[0] = bigSums(parts[0], bigScaled(bigsOf(x.m), stepOf(x.p)))
	return cipherTold(cipherMeaning(x.p, parts...), true)
}

// nearNought takes the numbers above T / 2 (down) less T.
func nearNought(p impl.Params, m []int) []int {
	near := slices.Clone(m)
	for i, x := range m {
		if x > p.T/2 {
			near[i] = x - p.T
		}
	}
	return near
}

func wantMulPlain(x cipherArgs) cipherAnswer {
	by := bigsOf(nearNought(x.p, x.m))
	return wantEachPart(x, func(numbers []*big.Int) []*big.Int { return bigPolyProduct(numbers, by) })
}

func wantMulCiphers(x cipherArgs) cipherAnswer {
	a, b := centredNumbers(x.p, x.a), centredNumbers(x.p, x.b)
	products := [][]*big.Int{
		bigPolyProduct(a[0], b[0]),
		bigSums(bigPolyProduct(a[0], b[1]), bigPolyProduct(a[1], b[0])),
		bigPolyProduct(a[1], b[1]),
	}
	for i, numbers := range products {
		products[i] = nearestShares(x.p, numbers)
	}
	return cipherTold(cipherMeaning(x.p, products...), true)
}

// switchedBy puts the numbers that the rows of last have at each prime, times that prime's pair, to first and second.
func switchedBy(p impl.Params, first []*big.Int, second []*big.Int, last [][]int, pairs []impl.Pair) cipherAnswer {
	for i, pair := range pairs {
		numbers := partNumbers(p, impl.Cipher{Parts: [][][]int{pair.B, pair.A}})
		first = bigSums(first, bigPolyProduct(bigsOf(last[i]), numbers[0]))
		second = bigSums(second, bigPolyProduct(bigsOf(last[i]), numbers[1]))
	}
	return cipherTold(cipherMeaning(p, first, second), true)
}

func wantSwitchLast(x cipherArgs) cipherAnswer {
	parts := partNumbers(x.p, x.a)
	return switchedBy(x.p, parts[0], parts[1], x.a.Parts[2], x.pairs)
}

func wantTurnCipher(x cipherArgs) cipherAnswer {
	parts := partNumbers(x.p, x.a)
	turned := rowsMeaning(spaceOf(x.p), bigTurned(parts[1], x.g), false)
	return switchedBy(x.p, bigTurned(parts[0], x.g), noughts(x.p.N), turned.Rows, x.pairs)
}

// arePlain asks for so many numbers in 0..t - 1.
func arePlain(m []int, n int, t int) bool {
	return len(m) == n && !slices.ContainsFunc(m, func(x int) bool { return x < 0 || x >= t })
}

// isOfParts asks for one of these numbers of Parts, and for good rows.
func isOfParts(p impl.Params, c impl.Cipher, counts []int) bool {
	return slices.Contains(counts, len(c.Parts)) && !slices.ContainsFunc(c.Parts, func(part [][]int) bool { return !areRows(spaceOf(p), impl.Rows{Rows: part}) })
}

func arePairs(p impl.Params, pairs []impl.Pair, count int) bool {
	return len(pairs) == count && !slices.ContainsFunc(pairs, func(k impl.Pair) bool {
		return !areRows(spaceOf(p), impl.Rows{Rows: k.A}) || !areRows(spaceOf(p), impl.Rows{Rows: k.B})
	})
}

func (f ofCipher) isAsSaid(x cipherArgs) bool {
	switch {
	case f.plain && !arePlain(x.m, x.p.N, x.p.T):
		return false
	case f.secret && !areSmall(x.s, x.p.N, 1):
		return false
	case f.words && !isForDraw(coinArgs{words: x.words, at: x.at}):
		return false
	case f.turn && !isTurn(x.g, x.p.N):
		return false
	case f.pair && !arePairs(x.p, []impl.Pair{x.k}, 1):
		return false
	case f.pairs && !arePairs(x.p, x.pairs, len(x.p.Primes)):
		return false
	case f.parts != nil && !isOfParts(x.p, x.a, f.parts):
		return false
	case f.two && !isOfParts(x.p, x.b, f.parts):
		return false
	}
	// last, since primes take longest
	return isParams(x.p)
}

// wanted is the answer that the document asks for, at any argument.
func (f ofCipher) wanted(x cipherArgs) cipherAnswer {
	if f.isAsSaid(x) {
		return f.want(x)
	}
	return cipherAnswer{}
}

// listsOf are all lists of numbers that are given, in one order.
func (x cipherArgs) listsOf() [][]int {
	lists := slices.Concat([][]int{x.p.Primes, x.s, x.m, x.words}, x.k.A, x.k.B)
	for _, pair := range x.pairs {
		lists = slices.Concat(lists, pair.A, pair.B)
	}
	return slices.Concat(lists, slices.Concat(x.a.Parts...), slices.Concat(x.b.Parts...))
}

// withLists is the same with these lists; its lists of lists go on behind their length, a cipher with a Part that would be good.
func (x cipherArgs) withLists(lists [][]int) cipherArgs {
	other := x
	other.p.Primes, other.s, other.m, other.words = lists[0], lists[1], lists[2], lists[3]
	left := lists[4:]
	rowsLike := func(rows [][]int) [][]int {
		taken := append(slices.Clone(left[:len(rows)]), lists[0], nil)[:len(rows)]
		left = left[len(rows):]
		return taken
	}
	partsLike := func(c impl.Cipher) impl.Cipher {
		var parts [][][]int
		for _, part := range c.Parts {
			parts = append(parts, rowsLike(part))
		}
		return impl.Cipher{Parts: append(slices.Clone(parts), x.k.A, x.k.B)[:len(parts)]}
	}
	other.k = impl.Pair{A: rowsLike(x.k.A), B: rowsLike(x.k.B)}
	var pairs []impl.Pair
	for _, pair := range x.pairs {
		pairs = append(pairs, impl.Pair{A: rowsLike(pair.A), B: rowsLike(pair.B)})
	}
	other.pairs = append(slices.Clone(pairs), x.k, impl.Pair{})[:len(pairs)]
	other.a, other.b = partsLike(x.a), partsLike(x.b)
	return other
}

// outer is all that the lists of lists have, also behind their length: the rows, and the lists of rows.
func (x cipherArgs) outer() ([][]int, [][][]int) {
	all := [][][]int{x.k.A, x.k.B}
	for _, pair := range x.pairs[:cap(x.pairs)] {
		all = append(all, pair.A, pair.B)
	}
	all = slices.Concat(all, x.a.Parts[:cap(x.a.Parts)], x.b.Parts[:cap(x.b.Parts)])
	var rows [][]int
	for _, list := range all {
		rows = append(rows, list[:cap(list)]...)
	}
	return rows, all
}

// samePlace asks whether both lists of rows are one.
func samePlace(a [][]int, b [][]int) bool {
	return len(a) == len(b) && cap(a) == cap(b) && (cap(a) == 0 || &a[:1][0] == &b[:1][0])
}

// checkCipher holds one call against the second reckoning, and looks after the memory of its lists and of its answer.
func checkCipher(t *testing.T, f ofCipher, x cipherArgs) cipherAnswer {
	t.Helper()
	want, failed := f.wanted(x), t.Failed()
	checkMemory(t, f.name, x.listsOf(), func(laid [][]int) [][]int {
		given := x.withLists(laid)
		rows, all := given.outer()
		got := f.call(given)
		if !got.same(want) {
			t.Errorf("%s = %v, want %v", f.name, got, want)
		}
		lists := got.lists()
		if !outerApart(got.outerLists()) {
			t.Errorf("%s tells two lists of rows that share memory", f.name)
		}
		clear(got.cipher.Parts[:cap(got.cipher.Parts)])
		rowsNow, allNow := given.outer()
		if !slices.EqualFunc(rowsNow, rows, sameMemory) || !slices.EqualFunc(allNow, all, samePlace) {
			t.Errorf("%s writes into a list of lists", f.name)
		}
		return lists
	})
	// told only once: what most calls are given is long
	if t.Failed() && !failed {
		t.Errorf("%s was given %.900s", f.name, fmt.Sprintf("%+v", x))
	}
	return want
}

// checkAllOfCiphers asks every function of the chapter.
func checkAllOfCiphers(t *testing.T, x cipherArgs) {
	t.Helper()
	for _, f := range cipherFunctions() {
		checkCipher(t, f, x)
	}
}

// cipher is one of so many Parts of any numbers.
func (d *dice) cipher(p impl.Params, parts int) impl.Cipher {
	var c impl.Cipher
	for range parts {
		c.Parts = append(c.Parts, d.rows(spaceOf(p), false).Rows)
	}
	return c
}

func (d *dice) pairsOf(p impl.Params, count int) []impl.Pair {
	var pairs []impl.Pair
	for range count {
		pairs = append(pairs, impl.Pair{A: d.rows(spaceOf(p), false).Rows, B: d.rows(spaceOf(p), false).Rows})
	}
	return pairs
}

func (d *dice) plain(p impl.Params) []int {
	m := make([]int, p.N)
	for i := range m {
		m[i] = d.below(p.T)
	}
	return m
}

// edgePlains: 0, the greatest, T / 2 (down) and the numbers beside it in all places, by turns, and in each place alone.
func edgePlains(p impl.Params) [][]int {
	numbers := []int{0, p.T - 1, p.T / 2, min(p.T/2+1, p.T-1), p.T/2 - 1, 1}
	var edges [][]int
	for i, x := range numbers {
		edges = append(edges, slices.Repeat([]int{x}, p.N), slices.Repeat([]int{x, numbers[(i+1)%len(numbers)]}, p.N/2))
	}
	for place := range p.N {
		alone := make([]int, p.N)
		alone[place] = numbers[1+place%5]
		edges = append(edges, alone)
	}
	return edges
}

// edgeParts: rows of 0, of half the prime and one above it, of the prime less 1; numbers at and beside half of q, and near 0.
func edgeParts(p impl.Params) [][][]int {
	var parts [][][]int
	for _, number := range []func(prime int) int{
		func(prime int) int { return 0 },
		func(prime int) int { return prime / 2 },
		func(prime int) int { return prime/2 + 1 },
		func(prime int) int { return prime - 1 },
	} {
		var rows [][]int
		for _, prime := range p.Primes {
			rows = append(rows, slices.Repeat([]int{number(prime)}, p.N))
		}
		parts = append(parts, rows)
	}
	half := halfOf(spaceOf(p))
	for near := -1; near <= 2; near++ {
		numbers := noughts(p.N)
		for i := range numbers {
			numbers[i].Add(half, bigOf(near*(i%2)))
		}
		parts = append(parts, rowsMeaning(spaceOf(p), numbers, false).Rows)
	}
	turns := noughts(p.N)
	for i := range turns {
		turns[i].Mul(half, bigOf(1-2*(i%2)))
	}
	parts = append(parts, rowsMeaning(spaceOf(p), turns, false).Rows)
	for _, a := range edgeRows(spaceOf(p), false)[2:] {
		parts = append(parts, a.Rows)
	}
	return parts
}

// askCipher makes a call of the program that must be told true, with a cipher of so many Parts.
func askCipher(t *testing.T, name string, x cipherArgs, parts int) impl.Cipher {
	t.Helper()
	got := cipherFunction(name).call(x)
	if !got.ok || !isOfParts(x.p, got.cipher, []int{parts}) {
		t.Fatalf("%s of %.900s = %v", name, fmt.Sprintf("%+v", x), got)
	}
	return got.cipher
}

func askPlain(t *testing.T, p impl.Params, s []int, c impl.Cipher) []int {
	t.Helper()
	m, ok := impl.Decrypt(p, s, c)
	if !ok || !arePlain(m, p.N, p.T) {
		t.Fatalf("Decrypt(%v, %v, %v) = %v, %v", p, s, c, m, ok)
	}
	return m
}
