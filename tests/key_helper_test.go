package tests

import (
	"fmt"
	"math/big"
	"slices"
	"testing"

	"loop.example/g00133/impl"
)

// greatestT is as far as T may go, and farthestWant as far as a number of want.
const greatestT = 65536
const farthestWant = 1 << 40

func spaceOf(p impl.Params) impl.Space {
	return impl.Space{N: p.N, Primes: p.Primes}
}

// mostT is the greatest T that these primes let be.
func mostT(l []int) int {
	return min(greatestT, slices.Min(l)-1)
}

// goodParams: every N, of one prime to MaxRow, the least and the greatest primes and both together, T and Noise at their edges and between.
func goodParams() []impl.Params {
	var all []impl.Params
	for _, n := range ringSizes {
		bases := [][]int{{65537}, {786433, 65537}}
		for count := 1; count <= impl.MaxRow; count++ {
			small, great := fittingPrimes(n, count, 1), fittingPrimes(n, count, -1)
			mixed := append(slices.Clone(great[:count/2]), small[:count-count/2]...)
			bases = append(bases, small, backward(great), mixed)
		}
		for i, l := range bases {
			most := mostT(l)
			all = append(all, impl.Params{N: n, T: 2, Noise: impl.MaxNoise, Primes: l}, impl.Params{N: n, T: most, Noise: 1, Primes: l})
			if i%4 == 0 {
				all = append(all, impl.Params{N: n, T: 1 + most/2, Noise: 3, Primes: l})
			}
		}
	}
	return all
}

// fewParams are for what takes long: of each N one prime and MaxRow of them, the least, the greatest and both.
func fewParams() []impl.Params {
	var all []impl.Params
	for _, n := range ringSizes {
		small, great := fittingPrimes(n, impl.MaxRow, 1), fittingPrimes(n, impl.MaxRow, -1)
		mixed := []int{great[0], small[1], great[2], small[0]}
		for i, l := range [][]int{{65537}, small, backward(great), mixed} {
			all = append(all, impl.Params{N: n, T: []int{mostT(l), 2}[i%2], Noise: []int{1, impl.MaxNoise, 2, 5}[i], Primes: l})
		}
	}
	return all
}

func isParams(p impl.Params) bool {
	if p.T < 2 || p.T > greatestT || p.Noise < 1 || p.Noise > 16 || len(p.Primes) > 4 {
		return false
	}
	return isSpace(spaceOf(p)) && !slices.ContainsFunc(p.Primes, func(prime int) bool { return p.T >= prime })
}

// areSmall asks for so many numbers, of at most this size.
func areSmall(a []int, n int, most int) bool {
	return len(a) == n && !slices.ContainsFunc(a, func(x int) bool { return x > most || x < -most })
}

func (d *dice) small(n int, most int) []int {
	a := make([]int, n)
	for i := range a {
		a[i] = d.below(2*most+1) - most
	}
	return a
}

func (d *dice) params() impl.Params {
	s := d.space()
	s.Primes = s.Primes[:min(len(s.Primes), impl.MaxRow)]
	return impl.Params{N: s.N, T: 2 + d.below(mostT(s.Primes)-1), Noise: 1 + d.below(impl.MaxNoise), Primes: s.Primes}
}

// wordsOf are as many as any key takes, of which some are passed over by its primes.
func (d *dice) wordsOf(p impl.Params) []int {
	return d.wordsFor(p.Primes[d.below(len(p.Primes))], 700+3*impl.MaxN*(impl.MaxRow+1)*impl.MaxRow)
}

// edgeSmall: noughts, the least and the greatest numbers in all places, by turns, and in each place alone.
func edgeSmall(n int, most int) [][]int {
	turns := make([]int, n)
	for i := range turns {
		turns[i] = most - 2*most*(i%2)
	}
	edges := [][]int{make([]int, n), slices.Repeat([]int{most}, n), slices.Repeat([]int{-most}, n), turns}
	for i := range n {
		for _, x := range []int{most, -most} {
			alone := make([]int, n)
			alone[i] = x
			edges = append(edges, alone)
		}
	}
	return edges
}

func intMod(a int, m int) int {
	return (a%m + m) % m
}

// intProduct multiplies each with each; X^N is -1.
func intProduct(a []int, b []int) []int {
	n := len(a)
	product := make([]int, n)
	for i := range a {
		for k := range b {
			sign := 1 - 2*((i+k)/n)
			product[(i+k)%n] += sign * a[i] * b[k]
		}
	}
	return product
}

// intTurned is a with X^g for X.
func intTurned(a []int, g int) []int {
	var turned []int
	for _, b := range bigTurned(bigsOf(a), g) {
		turned = append(turned, intOf(b))
	}
	return turned
}

func bigsOf(a []int) []*big.Int {
	var numbers []*big.Int
	for _, x := range a {
		numbers = append(numbers, bigOf(x))
	}
	return numbers
}

// leftRows are what is left of small numbers, by each prime.
func leftRows(p impl.Params, small []int) [][]int {
	var rows [][]int
	for _, prime := range p.Primes {
		row := make([]int, len(small))
		for k, x := range small {
			row[k] = intMod(x, prime)
		}
		rows = append(rows, row)
	}
	return rows
}

// aloneRows have small's row at prime i, and noughts at all others.
func aloneRows(p impl.Params, small []int, i int) [][]int {
	rows := leftRows(p, make([]int, p.N))
	rows[i] = leftRows(p, small)[i]
	return rows
}

// keyArgs hold what any function of keys is given; each takes what it needs.
type keyArgs struct {
	p     impl.Params
	s     []int
	other []int
	words []int
	at    int
	g     int
	k     impl.Pair
	want  []int
}

// keyAnswer is what any function of keys answers.
type keyAnswer struct {
	numbers []int
	pairs   []impl.Pair
	whole   impl.Whole
	next    int
	ok      bool
}

func samePair(a impl.Pair, b impl.Pair) bool {
	return sameLists(a.A, b.A) && sameLists(a.B, b.B)
}

func (a keyAnswer) same(other keyAnswer) bool {
	return slices.Equal(a.numbers, other.numbers) && slices.EqualFunc(a.pairs, other.pairs, samePair) && sameWhole(a.whole, other.whole) && a.next == other.next && a.ok == other.ok
}

// lists are all lists of numbers that are told.
func (a keyAnswer) lists() [][]int {
	lists := [][]int{a.numbers, a.whole.Limbs}
	for _, pair := range a.pairs {
		lists = slices.Concat(lists, pair.A, pair.B)
	}
	return lists
}

// outerLists are all lists of lists that are told, also behind their length.
func (a keyAnswer) outerLists() [][][]int {
	var outer [][][]int
	for _, pair := range a.pairs {
		outer = append(outer, pair.A[:cap(pair.A)], pair.B[:cap(pair.B)])
	}
	return outer
}

// outerApart writes another list over each list of lists, and asks whether all stay.
func outerApart(outer [][][]int) bool {
	for i, rows := range outer {
		for k := range rows {
			rows[k] = []int{i, k}
		}
	}
	for i, rows := range outer {
		for k := range rows {
			if !slices.Equal(rows[k], []int{i, k}) {
				return false
			}
		}
	}
	return true
}

func pairTold(pair impl.Pair, next int, ok bool) keyAnswer {
	if len(pair.A) == 0 && len(pair.B) == 0 {
		return keyAnswer{next: next, ok: ok}
	}
	return keyAnswer{pairs: []impl.Pair{pair}, next: next, ok: ok}
}

func pairsTold(pairs []impl.Pair, next int, ok bool) keyAnswer {
	return keyAnswer{pairs: pairs, next: next, ok: ok}
}

func secretTold(s []int, next int, ok bool) keyAnswer {
	return keyAnswer{numbers: s, next: next, ok: ok}
}

func noiseTold(a impl.Whole, ok bool) keyAnswer {
	return keyAnswer{whole: a, ok: ok}
}

// ofKey is a function of keys, and what the document asks of it, by other means, where the arguments are as said.
type ofKey struct {
	name string
	call func(x keyArgs) keyAnswer
	want func(x keyArgs) keyAnswer
	// what it takes beside the params
	secret, other, words, turn, pair bool
}

func keyFunctions() []ofKey {
	good := func(x keyArgs) keyAnswer { return keyAnswer{ok: true} }
	return []ofKey{
		{name: "GoodParams", want: good, call: func(x keyArgs) keyAnswer { return keyAnswer{ok: impl.GoodParams(x.p)} }},
		{name: "SecretFrom", words: true, want: wantSecret, call: func(x keyArgs) keyAnswer { return secretTold(impl.SecretFrom(x.p, x.words, x.at)) }},
		{name: "GoodSecret", secret: true, want: good, call: func(x keyArgs) keyAnswer { return keyAnswer{ok: impl.GoodSecret(x.p, x.s)} }},
		{name: "PublicFrom", secret: true, words: true, call: func(x keyArgs) keyAnswer { return pairTold(impl.PublicFrom(x.p, x.s, x.words, x.at)) },
			want: func(x keyArgs) keyAnswer { return wantPairs(x, leftRows(x.p, make([]int, x.p.N))) }},
		{name: "SwitchFrom", secret: true, other: true, words: true, call: func(x keyArgs) keyAnswer { return pairsTold(impl.SwitchFrom(x.p, x.s, x.other, x.words, x.at)) },
			want: func(x keyArgs) keyAnswer { return wantSwitch(x, x.other) }},
		{name: "RelinFrom", secret: true, words: true, call: func(x keyArgs) keyAnswer { return pairsTold(impl.RelinFrom(x.p, x.s, x.words, x.at)) },
			want: func(x keyArgs) keyAnswer { return wantSwitch(x, intProduct(x.s, x.s)) }},
		{name: "TurnFrom", secret: true, turn: true, words: true, call: func(x keyArgs) keyAnswer { return pairsTold(impl.TurnFrom(x.p, x.s, x.g, x.words, x.at)) },
			want: func(x keyArgs) keyAnswer { return wantSwitch(x, intTurned(x.s, x.g)) }},
		{name: "NoiseInPair", secret: true, pair: true, want: wantNoiseInPair, call: func(x keyArgs) keyAnswer { return noiseTold(impl.NoiseInPair(x.p, x.s, x.k, x.want)) }},
	}
}

func keyFunction(name string) ofKey {
	for _, f := range keyFunctions() {
		if f.name == name {
			return f
		}
	}
	panic(name)
}

// pairMakers are the functions that make pairs.
func pairMakers() []ofKey {
	return slices.DeleteFunc(keyFunctions(), func(f ofKey) bool { return !f.secret || !f.words })
}

func wantSecret(x keyArgs) keyAnswer {
	drawn := wantRow(wantTernary)(coinArgs{words: x.words, at: x.at, n: x.p.N})
	return secretTold(drawn.numbers, drawn.next, drawn.ok)
}

// wantPair is a pair for the rows k, its coins taken from at on.
func wantPair(x keyArgs, k [][]int, at int) (impl.Pair, int, bool) {
	var pair impl.Pair
	coins := coinArgs{words: x.words, at: at, n: x.p.N, b: x.p.Noise}
	for _, prime := range x.p.Primes {
		coins.p = prime
		drawn := wantRow(wantUniform)(coins)
		if !drawn.ok {
			return impl.Pair{}, 0, false
		}
		pair.A, coins.at = append(pair.A, drawn.numbers), drawn.next
	}
	e := wantRow(wantNoise)(coins)
	if !e.ok {
		return impl.Pair{}, 0, false
	}
	for i, prime := range x.p.Primes {
		row := make([]int, x.p.N)
		for place, product := range intProduct(pair.A[i], x.s) {
			row[place] = intMod(k[i][place]-product-e.numbers[place], prime)
		}
		pair.B = append(pair.B, row)
	}
	return pair, e.next, true
}

// wantPairs are one behind the other.
func wantPairs(x keyArgs, all ...[][]int) keyAnswer {
	want := keyAnswer{next: x.at, ok: true}
	for _, k := range all {
		pair, next, ok := wantPair(x, k, want.next)
		if !ok {
			return keyAnswer{}
		}
		want.pairs, want.next = append(want.pairs, pair), next
	}
	return want
}

func wantSwitch(x keyArgs, other []int) keyAnswer {
	var all [][][]int
	for i := range x.p.Primes {
		all = append(all, aloneRows(x.p, other, i))
	}
	return wantPairs(x, all...)
}

// wantNoiseInPair reckons with the great numbers that the rows mean.
func wantNoiseInPair(x keyArgs) keyAnswer {
	s := spaceOf(x.p)
	a, b := meantBy(s, impl.Rows{Rows: x.k.A}), meantBy(s, impl.Rows{Rows: x.k.B})
	left := bigDifferences(bigSums(b, bigPolyProduct(a, bigsOf(x.s))), bigsOf(x.want))
	return noiseTold(wholeFrom(greatestOf(left, bigProduct(x.p.Primes))), true)
}

// greatestOf is the greatest size, once the numbers are centred.
func greatestOf(numbers []*big.Int, product *big.Int) *big.Int {
	most := new(big.Int)
	for _, b := range numbers {
		if size := new(big.Int).Abs(centredBig(b, product)); size.Cmp(most) > 0 {
			most = size
		}
	}
	return most
}

func (f ofKey) isAsSaid(x keyArgs) bool {
	s := spaceOf(x.p)
	switch {
	case f.secret && !areSmall(x.s, x.p.N, 1):
		return false
	case f.other && !areSmall(x.other, x.p.N, 16):
		return false
	case f.words && !isForDraw(coinArgs{words: x.words, at: x.at}):
		return false
	case f.turn && !isTurn(x.g, x.p.N):
		return false
	case f.pair && (!areRows(s, impl.Rows{Rows: x.k.A}) || !areRows(s, impl.Rows{Rows: x.k.B}) || !areSmall(x.want, x.p.N, farthestWant)):
		return false
	}
	// last, since primes take longest
	return isParams(x.p)
}

// wanted is the answer that the document asks for, at any argument.
func (f ofKey) wanted(x keyArgs) keyAnswer {
	if f.isAsSaid(x) {
		return f.want(x)
	}
	return keyAnswer{}
}

// listsOf are all lists of numbers that are given, in one order.
func (x keyArgs) listsOf() [][]int {
	return slices.Concat([][]int{x.p.Primes, x.s, x.other, x.words, x.want}, x.k.A, x.k.B)
}

// withLists is the same with these lists; its lists of lists go on behind their length.
func (x keyArgs) withLists(lists [][]int) keyArgs {
	other := x
	other.p.Primes, other.s, other.other, other.words, other.want = lists[0], lists[1], lists[2], lists[3], lists[4]
	rowsA, rowsB := lists[5:5+len(x.k.A)], lists[5+len(x.k.A):]
	other.k.A = append(slices.Clone(rowsA), lists[0], nil)[:len(rowsA)]
	other.k.B = append(slices.Clone(rowsB), lists[0], nil)[:len(rowsB)]
	return other
}

// outer is all that the lists of lists have, also behind their length.
func (x keyArgs) outer() [][]int {
	return slices.Concat(x.k.A[:cap(x.k.A)], x.k.B[:cap(x.k.B)])
}

// checkKey holds one call against the second reckoning, and looks after the memory of its lists and of its answer.
func checkKey(t *testing.T, f ofKey, x keyArgs) keyAnswer {
	t.Helper()
	want, failed := f.wanted(x), t.Failed()
	checkMemory(t, f.name, x.listsOf(), func(laid [][]int) [][]int {
		given := x.withLists(laid)
		outer := slices.Clone(given.outer())
		got := f.call(given)
		if !got.same(want) {
			t.Errorf("%s = %v, want %v", f.name, got, want)
		}
		lists := got.lists()
		if !outerApart(got.outerLists()) {
			t.Errorf("%s tells two lists of rows that share memory", f.name)
		}
		if !slices.EqualFunc(given.outer(), outer, sameMemory) {
			t.Errorf("%s writes into a list of rows", f.name)
		}
		return lists
	})
	// told only once: what most calls are given is long
	if t.Failed() && !failed {
		t.Errorf("%s was given %.900s", f.name, fmt.Sprintf("%+v", x))
	}
	return want
}

// checkAllOfKeys asks every function of the chapter.
func checkAllOfKeys(t *testing.T, x keyArgs) {
	t.Helper()
	for _, f := range keyFunctions() {
		checkKey(t, f, x)
	}
}

// askPairs makes a call of the program that must be told true, with as many pairs of good rows as there should be.
func askPairs(t *testing.T, name string, x keyArgs) ([]impl.Pair, int) {
	t.Helper()
	got, count := keyFunction(name).call(x), len(x.p.Primes)
	if name == "PublicFrom" {
		count = 1
	}
	if !got.ok || len(got.pairs) != count {
		t.Fatalf("%s of %.900s = %v", name, fmt.Sprintf("%+v", x), got)
	}
	for _, pair := range got.pairs {
		if !areRows(spaceOf(x.p), impl.Rows{Rows: pair.A}) || !areRows(spaceOf(x.p), impl.Rows{Rows: pair.B}) {
			t.Fatalf("%s of %.900s: the rows %v are not good", name, fmt.Sprintf("%+v", x), pair)
		}
	}
	return got.pairs, got.next
}

func askNoise(t *testing.T, p impl.Params, s []int, pair impl.Pair, want []int) *big.Int {
	t.Helper()
	noise, ok := impl.NoiseInPair(p, s, pair, want)
	if !ok || !isGoodWhole(noise) || noise.Neg {
		t.Fatalf("NoiseInPair(%v, %v, %v, %v) = %v, %v", p, s, pair, want, noise, ok)
	}
	return bigFrom(noise)
}
