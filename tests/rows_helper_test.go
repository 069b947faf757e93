package tests

import (
	"fmt"
	"math/big"
	"slices"
	"testing"

	"loop.example/g00133/impl"
)

// fittingPrimes are so many primes that fit N, from the least one up or from the greatest one down.
func fittingPrimes(n int, count int, step int) []int {
	p := 2*n + 1
	if step < 0 {
		p = impl.MaxPrime - 2*n + 1
	}
	var primes []int
	for ; len(primes) < count; p += step * 2 * n {
		p = primeFor(n, p, step)
		primes = append(primes, p)
	}
	return primes
}

// goodSpaces: every N, of one prime to MaxPrimes, the least and the greatest primes and both together, in several orders.
func goodSpaces() []impl.Space {
	var spaces []impl.Space
	for _, n := range ringSizes {
		bases := [][]int{{786433}}
		for count := 1; count <= impl.MaxPrimes; count++ {
			small, great := fittingPrimes(n, count, 1), fittingPrimes(n, count, -1)
			mixed := append(slices.Clone(great[:count/2]), small[:count-count/2]...)
			bases = append(bases, small, great)
			if count > 1 {
				bases = append(bases, backward(small), backward(great), mixed, backward(mixed))
			}
		}
		for _, l := range bases {
			spaces = append(spaces, impl.Space{N: n, Primes: l})
		}
	}
	return spaces
}

// fewSpaces are for what takes long: of each N one prime and MaxPrimes, the least, the greatest and both.
func fewSpaces() []impl.Space {
	var spaces []impl.Space
	for _, n := range ringSizes {
		small, great := fittingPrimes(n, impl.MaxPrimes, 1), fittingPrimes(n, impl.MaxPrimes, -1)
		mixed := []int{great[0], small[1], great[2], small[0], small[5], great[1]}
		for _, l := range [][]int{small[:1], great[:1], backward(small[:2]), small, backward(great), mixed} {
			spaces = append(spaces, impl.Space{N: n, Primes: l})
		}
	}
	return spaces
}

func isSpace(s impl.Space) bool {
	if !slices.Contains(ringSizes, s.N) || !isBasis(s.Primes) {
		return false
	}
	return !slices.ContainsFunc(s.Primes, func(p int) bool { return (p-1)%(2*s.N) != 0 })
}

// areRows looks at the rows alone, and not at the space.
func areRows(s impl.Space, a impl.Rows) bool {
	if len(a.Rows) != len(s.Primes) {
		return false
	}
	for i, p := range s.Primes {
		if !isPolynomial(impl.Ring{P: p, N: s.N}, a.Rows[i]) {
			return false
		}
	}
	return true
}

func sameRows(a impl.Rows, b impl.Rows) bool {
	return a.Ahead == b.Ahead && sameLists(a.Rows, b.Rows)
}

// copyOf is in memory of its own, and Ahead as is told.
func copyOf(a impl.Rows, ahead bool) impl.Rows {
	other := impl.Rows{Ahead: ahead}
	for _, row := range a.Rows {
		other.Rows = append(other.Rows, slices.Clone(row))
	}
	return other
}

func (d *dice) rows(s impl.Space, ahead bool) impl.Rows {
	a := impl.Rows{Ahead: ahead}
	for _, p := range s.Primes {
		a.Rows = append(a.Rows, d.polynomial(impl.Ring{P: p, N: s.N}))
	}
	return a
}

// edgeRows: 0 and the prime less 1 in all places, in every place of all rows alone, and in all of one row alone.
func edgeRows(s impl.Space, ahead bool) []impl.Rows {
	filled := func(number func(i int, k int, p int) int) impl.Rows {
		a := impl.Rows{Ahead: ahead}
		for i, p := range s.Primes {
			row := make([]int, s.N)
			for k := range row {
				row[k] = number(i, k, p)
			}
			a.Rows = append(a.Rows, row)
		}
		return a
	}
	least, most := filled(func(i, k, p int) int { return 0 }), filled(func(i, k, p int) int { return p - 1 })
	edges := []impl.Rows{least, most}
	for place := range s.N {
		alone, lacking := copyOf(least, ahead), copyOf(most, ahead)
		for i, p := range s.Primes {
			alone.Rows[i][place], lacking.Rows[i][place] = p-1, 0
		}
		edges = append(edges, alone, lacking)
	}
	for i := range s.Primes {
		alone, lacking := copyOf(least, ahead), copyOf(most, ahead)
		alone.Rows[i], lacking.Rows[i] = slices.Clone(most.Rows[i]), slices.Clone(least.Rows[i])
		edges = append(edges, alone, lacking)
	}
	return edges
}

// ringPoints are found once for each prime and N, since a power of a great number takes long.
var ringPoints = map[[2]int][]int{}

func pointsOf(p int, n int) []int {
	key := [2]int{p, n}
	if ringPoints[key] == nil {
		ring, _ := wantRing(p, n)
		for k := range n {
			ringPoints[key] = append(ringPoints[key], pointAt(ring, k))
		}
	}
	return ringPoints[key]
}

func rowAhead(p int, n int, a []int) []int {
	f := make([]int, n)
	for k, point := range pointsOf(p, n) {
		f[k] = valueAt(impl.Ring{P: p, N: n}, a, point)
	}
	return f
}

// rowBack: number i is the sum of all values, each times its point to the -i, which is minus the (N - i)-th power, divided by N.
func rowBack(p int, n int, f []int) []int {
	a := make([]int, n)
	for k, point := range pointsOf(p, n) {
		power := f[k]
		for i := n - 1; i >= 0; i-- {
			power = power * point % p
			a[i] = (a[i] + p - power) % p
		}
	}
	byN := wantInv(n, p)
	for i := range a {
		a[i] = a[i] * byN % p
	}
	return a
}

// meantBy are the numbers from 0 on, below the product, that the rows mean.
func meantBy(s impl.Space, a impl.Rows) []*big.Int {
	var rows [][]int
	for i, p := range s.Primes {
		if a.Ahead {
			rows = append(rows, rowBack(p, s.N, a.Rows[i]))
		} else {
			rows = append(rows, a.Rows[i])
		}
	}
	meant := make([]*big.Int, s.N)
	for k := range meant {
		column := make([]int, len(rows))
		for i := range rows {
			column[i] = rows[i][k]
		}
		meant[k] = bigComposed(column, s.Primes)
	}
	return meant
}

// rowsMeaning are the rows of numbers of any size.
func rowsMeaning(s impl.Space, meant []*big.Int, ahead bool) impl.Rows {
	a := impl.Rows{Ahead: ahead}
	for _, p := range s.Primes {
		row := make([]int, s.N)
		for k, b := range meant {
			row[k] = intOf(new(big.Int).Mod(b, bigOf(p)))
		}
		if ahead {
			row = rowAhead(p, s.N, row)
		}
		a.Rows = append(a.Rows, row)
	}
	return a
}

// centredBig: products of spaces are odd, so no number lies at the half itself.
func centredBig(b *big.Int, product *big.Int) *big.Int {
	rest := new(big.Int).Mod(b, product)
	if new(big.Int).Lsh(rest, 1).Cmp(product) > 0 {
		rest.Sub(rest, product)
	}
	return rest
}

func centredWholes(s impl.Space, numbers []*big.Int) []impl.Whole {
	var wholes []impl.Whole
	for _, b := range numbers {
		wholes = append(wholes, wholeFrom(centredBig(b, bigProduct(s.Primes))))
	}
	return wholes
}

func wholesFrom(numbers []*big.Int) []impl.Whole {
	var wholes []impl.Whole
	for _, b := range numbers {
		wholes = append(wholes, wholeFrom(b))
	}
	return wholes
}

func bigsFrom(wholes []impl.Whole) []*big.Int {
	var numbers []*big.Int
	for _, a := range wholes {
		numbers = append(numbers, bigFrom(a))
	}
	return numbers
}

func noughts(n int) []*big.Int {
	numbers := make([]*big.Int, n)
	for i := range numbers {
		numbers[i] = new(big.Int)
	}
	return numbers
}

func bigSums(a []*big.Int, b []*big.Int) []*big.Int {
	sums := noughts(len(a))
	for i := range sums {
		sums[i].Add(a[i], b[i])
	}
	return sums
}

func bigDifferences(a []*big.Int, b []*big.Int) []*big.Int {
	left := noughts(len(a))
	for i := range left {
		left[i].Sub(a[i], b[i])
	}
	return left
}

// bigPolyProduct multiplies each with each; X^N is -1.
func bigPolyProduct(a []*big.Int, b []*big.Int) []*big.Int {
	n := len(a)
	product := noughts(n)
	for i := range a {
		for k := range b {
			part := new(big.Int).Mul(a[i], b[k])
			if i+k < n {
				product[i+k].Add(product[i+k], part)
			} else {
				product[i+k-n].Sub(product[i+k-n], part)
			}
		}
	}
	return product
}

func bigScaled(a []*big.Int, by *big.Int) []*big.Int {
	scaled := noughts(len(a))
	for i := range scaled {
		scaled[i].Mul(a[i], by)
	}
	return scaled
}

// bigTurned puts X^g for X: each time round X^N changes the sign.
func bigTurned(a []*big.Int, g int) []*big.Int {
	n := len(a)
	turned := noughts(n)
	for i, b := range a {
		if i*g/n%2 == 0 {
			turned[i*g%n].Set(b)
		} else {
			turned[i*g%n].Neg(b)
		}
	}
	return turned
}

// rowsArgs hold what any function of rows is given; each takes what it needs.
type rowsArgs struct {
	space  impl.Space
	a      impl.Rows
	b      impl.Rows
	wholes []impl.Whole
	by     impl.Whole
	g      int
}

// rowsAnswer is what any function of rows answers.
type rowsAnswer struct {
	rows   impl.Rows
	wholes []impl.Whole
	ok     bool
}

func (a rowsAnswer) same(other rowsAnswer) bool {
	return sameRows(a.rows, other.rows) && slices.EqualFunc(a.wholes, other.wholes, sameWhole) && a.ok == other.ok
}

func rowsTold(a impl.Rows, ok bool) rowsAnswer {
	return rowsAnswer{rows: a, ok: ok}
}

func wholesTold(a []impl.Whole, ok bool) rowsAnswer {
	return rowsAnswer{wholes: a, ok: ok}
}

// ofRows is a function of rows, and what the document asks of it, by great numbers, where the arguments are as said.
type ofRows struct {
	name string
	call func(x rowsArgs) rowsAnswer
	want func(x rowsArgs) rowsAnswer
	// what it takes beside the space
	one, two, wholes, by, turn bool
}

func rowsFunctions() []ofRows {
	good := func(x rowsArgs) rowsAnswer { return rowsAnswer{ok: true} }
	meaning := func(x rowsArgs, meant []*big.Int, ahead bool) rowsAnswer {
		return rowsTold(rowsMeaning(x.space, meant, ahead), true)
	}
	first := func(x rowsArgs) []*big.Int { return meantBy(x.space, x.a) }
	second := func(x rowsArgs) []*big.Int { return meantBy(x.space, x.b) }
	return []ofRows{
		{name: "GoodSpace", want: good, call: func(x rowsArgs) rowsAnswer { return rowsAnswer{ok: impl.GoodSpace(x.space)} }},
		{name: "GoodRows", one: true, want: good, call: func(x rowsArgs) rowsAnswer { return rowsAnswer{ok: impl.GoodRows(x.space, x.a)} }},
		{name: "RowsOf", wholes: true, call: func(x rowsArgs) rowsAnswer { return rowsTold(impl.RowsOf(x.space, x.wholes)) },
			want: func(x rowsArgs) rowsAnswer { return meaning(x, bigsFrom(x.wholes), false) }},
		{name: "WholesOf", one: true, call: func(x rowsArgs) rowsAnswer { return wholesTold(impl.WholesOf(x.space, x.a)) },
			want: func(x rowsArgs) rowsAnswer { return wholesTold(centredWholes(x.space, first(x)), true) }},
		{name: "AddRows", one: true, two: true, call: func(x rowsArgs) rowsAnswer { return rowsTold(impl.AddRows(x.space, x.a, x.b)) },
			want: func(x rowsArgs) rowsAnswer { return meaning(x, bigSums(first(x), second(x)), x.a.Ahead) }},
		{name: "SubRows", one: true, two: true, call: func(x rowsArgs) rowsAnswer { return rowsTold(impl.SubRows(x.space, x.a, x.b)) },
			want: func(x rowsArgs) rowsAnswer { return meaning(x, bigDifferences(first(x), second(x)), x.a.Ahead) }},
		{name: "MulRows", one: true, two: true, call: func(x rowsArgs) rowsAnswer { return rowsTold(impl.MulRows(x.space, x.a, x.b)) },
			want: func(x rowsArgs) rowsAnswer { return meaning(x, bigPolyProduct(first(x), second(x)), x.a.Ahead) }},
		{name: "ScaleRows", one: true, by: true, call: func(x rowsArgs) rowsAnswer { return rowsTold(impl.ScaleRows(x.space, x.a, x.by)) },
			want: func(x rowsArgs) rowsAnswer { return meaning(x, bigScaled(first(x), bigFrom(x.by)), x.a.Ahead) }},
		{name: "TurnRows", one: true, turn: true, call: func(x rowsArgs) rowsAnswer { return rowsTold(impl.TurnRows(x.space, x.a, x.g)) },
			want: func(x rowsArgs) rowsAnswer { return meaning(x, bigTurned(first(x), x.g), x.a.Ahead) }},
		{name: "AheadRows", one: true, call: func(x rowsArgs) rowsAnswer { return rowsTold(impl.AheadRows(x.space, x.a)) },
			want: func(x rowsArgs) rowsAnswer { return meaning(x, first(x), true) }},
		{name: "BackRows", one: true, call: func(x rowsArgs) rowsAnswer { return rowsTold(impl.BackRows(x.space, x.a)) },
			want: func(x rowsArgs) rowsAnswer { return meaning(x, first(x), false) }},
	}
}

func (f ofRows) isAsSaid(x rowsArgs) bool {
	switch {
	case f.one && !areRows(x.space, x.a):
		return false
	case f.two && (!areRows(x.space, x.b) || x.a.Ahead != x.b.Ahead):
		return false
	case f.wholes && (len(x.wholes) != x.space.N || slices.ContainsFunc(x.wholes, func(a impl.Whole) bool { return !isGoodWhole(a) })):
		return false
	case f.by && !isGoodWhole(x.by):
		return false
	case f.turn && !isTurn(x.g, x.space.N):
		return false
	}
	// last, since primes take longest
	return isSpace(x.space)
}

// wanted is the answer that the document asks for, at any argument.
func (f ofRows) wanted(x rowsArgs) rowsAnswer {
	if f.isAsSaid(x) {
		return f.want(x)
	}
	return rowsAnswer{}
}

// listsOf are all lists of numbers that are given, in one order.
func (x rowsArgs) listsOf() [][]int {
	return slices.Concat([][]int{x.space.Primes, x.by.Limbs}, x.a.Rows, x.b.Rows, limbLists(x.wholes))
}

// withLists is the same with these lists; its lists of lists go on behind their length.
func (x rowsArgs) withLists(lists [][]int) rowsArgs {
	countA, countB := len(x.a.Rows), len(x.b.Rows)
	rowsA, rowsB, limbs := lists[2:2+countA], lists[2+countA:2+countA+countB], lists[2+countA+countB:]
	other := x
	other.space.Primes, other.by.Limbs = lists[0], lists[1]
	other.a.Rows = append(slices.Clone(rowsA), lists[0], nil)[:countA]
	other.b.Rows = append(slices.Clone(rowsB), lists[0], nil)[:countB]
	other.wholes = append(withLimbs(x.wholes, limbs), impl.WholeOf(1), impl.Whole{})[:len(x.wholes)]
	return other
}

// outer is all that the lists of lists have, also behind their length.
func (x rowsArgs) outer() [][]int {
	rowsA, rowsB, wholes := x.a.Rows[:cap(x.a.Rows)], x.b.Rows[:cap(x.b.Rows)], x.wholes[:cap(x.wholes)]
	return slices.Concat(rowsA, rowsB, limbLists(wholes))
}

func (x rowsArgs) signs() []bool {
	var signs []bool
	for _, a := range x.wholes[:cap(x.wholes)] {
		signs = append(signs, a.Neg)
	}
	return signs
}

// sameMemory asks whether both lists are one: the same numbers at the same place.
func sameMemory(a []int, b []int) bool {
	if len(a) != len(b) || cap(a) != cap(b) {
		return false
	}
	return cap(a) == 0 || &a[:1][0] == &b[:1][0]
}

// clearOuter writes over an answer's lists of lists.
func (a rowsAnswer) clearOuter() {
	clear(a.rows.Rows[:cap(a.rows.Rows)])
	clear(a.wholes[:cap(a.wholes)])
}

// checkRows holds one call against the second reckoning, and looks after the memory of its lists and of its answer.
func checkRows(t *testing.T, f ofRows, x rowsArgs) {
	t.Helper()
	want, failed := f.wanted(x), t.Failed()
	checkMemory(t, f.name, x.listsOf(), func(laid [][]int) [][]int {
		given := x.withLists(laid)
		outer, signs := slices.Clone(given.outer()), given.signs()
		got := f.call(given)
		if !got.same(want) {
			t.Errorf("%s = %v, want %v", f.name, got, want)
		}
		lists := slices.Concat(got.rows.Rows, limbLists(got.wholes))
		got.clearOuter()
		if !slices.EqualFunc(given.outer(), outer, sameMemory) || !slices.Equal(given.signs(), signs) {
			t.Errorf("%s writes into a list of lists", f.name)
		}
		return lists
	})
	// told only once: what most calls are given is long
	if t.Failed() && !failed {
		t.Errorf("%s was given %.900s", f.name, fmt.Sprintf("%+v", x))
	}
}

// checkAllOfRows asks every function of the chapter.
func checkAllOfRows(t *testing.T, x rowsArgs) {
	t.Helper()
	for _, f := range rowsFunctions() {
		checkRows(t, f, x)
	}
}

// askRows makes a call of the program that must be told true, with rows that are good.
func askRows(t *testing.T, name string, x rowsArgs) impl.Rows {
	t.Helper()
	functions := rowsFunctions()
	i := slices.IndexFunc(functions, func(f ofRows) bool { return f.name == name })
	got := functions[i].call(x)
	if !got.ok || !areRows(x.space, got.rows) {
		t.Fatalf("%s of %v = %v", name, x, got)
	}
	return got.rows
}

func askWholes(t *testing.T, s impl.Space, a impl.Rows) []impl.Whole {
	t.Helper()
	wholes, ok := impl.WholesOf(s, a)
	if !ok || len(wholes) != s.N {
		t.Fatalf("WholesOf(%v, %v) = %v, %v", s, a, wholes, ok)
	}
	return wholes
}
