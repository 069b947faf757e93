package tests

import (
	"math"
	"slices"
	"testing"

	"loop.example/g00133/impl"
)

// Promise 14: every function of the chapter, at every edge and at wrong inputs, in every place.

// goodArgs are as said for every function that takes rows both Ahead or both not.
func goodArgs(s impl.Space, ahead bool) rowsArgs {
	edges := edgeRows(s, ahead)
	return rowsArgs{space: s, a: edges[1], b: edges[2], wholes: slices.Repeat([]impl.Whole{impl.WholeOf(-5)}, s.N), by: impl.WholeOf(math.MinInt), g: 2*s.N - 1}
}

func TestRowsAtTheEdges(t *testing.T) {
	for _, s := range fewSpaces() {
		for _, ahead := range []bool{false, true} {
			edges := edgeRows(s, ahead)
			for i, a := range edges {
				x := goodArgs(s, ahead)
				x.a, x.b, x.g = a, edges[(i+1)%len(edges)], 2*(i%s.N)+1
				checkAllOfRows(t, x)
			}
		}
	}
}

func TestEveryGoodSpace(t *testing.T) {
	for _, s := range goodSpaces() {
		checkAllOfRows(t, goodArgs(s, false))
		checkAllOfRows(t, goodArgs(s, true))
	}
}

func TestGreatNumbersOfAnyKindAsRows(t *testing.T) {
	for _, s := range fewSpaces() {
		for _, f := range rowsFunctions() {
			if f.wholes {
				checkWholesInEachPlace(t, f, s)
			}
			if f.by {
				for _, by := range append(append(edgeWholes(), wrongWholes()...), wholesFrom(edgeNumbers(s.Primes))...) {
					for _, ahead := range []bool{false, true} {
						x := goodArgs(s, ahead)
						x.by = by
						checkRows(t, f, x)
					}
				}
			}
		}
	}
}

// checkWholesInEachPlace fills all places with edges, and then puts one that is not good into each.
func checkWholesInEachPlace(t *testing.T, f ofRows, s impl.Space) {
	t.Helper()
	x := goodArgs(s, false)
	edges := append(edgeWholes(), wholesFrom(edgeNumbers(s.Primes))...)
	for i := range edges {
		x.wholes = slices.Concat(edges[i:], edges)[:s.N]
		checkRows(t, f, x)
	}
	for place := range s.N {
		for _, wrong := range wrongWholes() {
			x.wholes = slices.Clone(edges[:s.N])
			x.wholes[place] = wrong
			checkRows(t, f, x)
		}
	}
}

func TestTooFewOrTooManyWholes(t *testing.T) {
	for _, s := range goodSpaces() {
		for _, count := range []int{0, 1, s.N / 2, s.N - 1, s.N, s.N + 1, 2 * s.N, 1000} {
			x := goodArgs(s, false)
			x.wholes = slices.Repeat([]impl.Whole{impl.WholeOf(3)}, count)
			for _, f := range rowsFunctions() {
				if f.wholes {
					checkRows(t, f, x)
				}
			}
		}
	}
}

// wrongSizes are no N, some of them near to one.
func wrongSizes() []int {
	sizes := []int{math.MinInt, math.MinInt / 2, -1 << 32, -16, -8, -4, -2, -1, 0, 1, 3, 5, 6, 7, 9, 12, 15, 17, 18, 24, 31, 32, 33, 64, 1024, 1 << 32, 1 << 61, 1 << 62, math.MaxInt}
	return slices.DeleteFunc(sizes, func(n int) bool { return slices.Contains(ringSizes, n) })
}

func TestWrongSizes(t *testing.T) {
	for _, s := range fewSpaces() {
		for _, n := range wrongSizes() {
			for _, ahead := range []bool{false, true} {
				x := goodArgs(s, ahead)
				x.space.N = n
				checkAllOfRows(t, x)
				if n >= 0 && n <= 64 {
					checkAllOfRows(t, filledArgs(x.space, len(s.Primes), ahead))
				}
			}
		}
	}
}

// filledArgs are as many rows and numbers, and as long, as a space asks for that may be none.
func filledArgs(s impl.Space, count int, ahead bool) rowsArgs {
	a := impl.Rows{Ahead: ahead}
	for range count {
		a.Rows = append(a.Rows, make([]int, s.N))
	}
	return rowsArgs{space: s, a: a, b: copyOf(a, ahead), wholes: make([]impl.Whole, s.N), by: impl.WholeOf(2), g: 1}
}

// A good N with primes that fit another one: the lists are as this N asks for.
func TestSizesThatThePrimesDoNotFit(t *testing.T) {
	for _, n := range ringSizes {
		for p := 2; p < 400; p++ {
			checkAllOfRows(t, filledArgs(impl.Space{N: n, Primes: []int{p}}, 1, p%2 == 0))
		}
		good := fittingPrimes(n, impl.MaxPrimes, -1)
		for i := range good {
			for _, p := range []int{2, 3, 7, 23, 268435399, primeFor(n, n+1, 1), primeFor(n, 3*n+1, 1), fittingPrimes(2, 1, 1)[0]} {
				l := slices.Clone(good)
				l[i] = p
				checkAllOfRows(t, filledArgs(impl.Space{N: n, Primes: l}, len(l), false))
				checkAllOfRows(t, filledArgs(impl.Space{N: n, Primes: l}, len(l), true))
			}
		}
	}
}

func TestWrongPrimesOfASpace(t *testing.T) {
	for _, s := range fewSpaces() {
		wrong := wrongBases(s.Primes)
		// primes that fit, but too many of them, or beyond the greatest modulus
		wrong = append(wrong, fittingPrimes(s.N, impl.MaxPrimes+1, 1), fittingPrimes(s.N, impl.MaxPrimes+1, -1), []int{primeFor(s.N, impl.MaxPrime+1, 1)})
		// numbers that leave 1 by 2 N, but are no primes
		for _, n := range []int{1, 65, 33 * 65, 1729, 2465, 4*65 + 1, impl.MaxPrime + 1, 1 - 2*s.N} {
			wrong = append(wrong, []int{n}, append([]int{n}, s.Primes[1:]...))
		}
		for i, l := range wrong {
			ahead := i%2 == 0
			x := goodArgs(s, ahead)
			x.space.Primes = l
			if i%3 == 0 {
				x = filledArgs(x.space, min(len(l), 20), ahead)
			}
			checkAllOfRows(t, x)
		}
	}
}

// Every p as the only prime, and beside another one.
func TestGoodSpaceOfEveryPrime(t *testing.T) {
	primes := append(wrongNumbers(), edgeInts...)
	for p := -50; p < 2500; p++ {
		primes = append(primes, p)
	}
	for p := lastPrime - 300; p < impl.MaxPrime+100; p++ {
		primes = append(primes, p)
	}
	for _, n := range append(wrongSizes(), ringSizes...) {
		other := fittingPrimes(impl.MaxN, 2, -1)[1]
		for _, p := range primes {
			for _, s := range []impl.Space{{N: n, Primes: []int{p}}, {N: n, Primes: []int{other, p}}} {
				if want := isSpace(s); impl.GoodSpace(s) != want {
					t.Errorf("GoodSpace(%v) is not %v", s, want)
				}
			}
		}
	}
}

// MaxPrimes may be met exactly.
func TestHowManyPrimesASpaceMayHave(t *testing.T) {
	for _, n := range ringSizes {
		for count := range 10 {
			for _, step := range []int{1, -1} {
				s := impl.Space{N: n, Primes: fittingPrimes(n, count, step)}
				if want := count >= 1 && count <= impl.MaxPrimes; impl.GoodSpace(s) != want {
					t.Errorf("GoodSpace(%v) is not %v", s, want)
				}
				checkAllOfRows(t, filledArgs(s, count, step < 0))
			}
		}
	}
}

// wrongRows are not good for the space: too few or too many, or a row that is none, in each place in turn.
func wrongRows(s impl.Space, ahead bool) []impl.Rows {
	good := edgeRows(s, ahead)[1]
	fewer, more := copyOf(good, ahead), copyOf(good, ahead)
	fewer.Rows = fewer.Rows[:len(s.Primes)-1]
	more.Rows = append(more.Rows, make([]int, s.N))
	wrong := []impl.Rows{{Ahead: ahead}, fewer, more, {Ahead: ahead, Rows: make([][]int, len(s.Primes))}, {Ahead: ahead, Rows: slices.Repeat(good.Rows, 2)}, {Ahead: ahead, Rows: slices.Repeat(good.Rows, 100)}}
	for i, p := range s.Primes {
		for _, row := range wrongRowsFor(p, s.N) {
			a := copyOf(good, ahead)
			a.Rows[i] = row
			wrong = append(wrong, a)
		}
	}
	return wrong
}

// wrongRowsFor are of a wrong length, or have a number just beyond the edge in each place in turn, and one far from it in one place.
func wrongRowsFor(p int, n int) [][]int {
	rows := [][]int{nil, make([]int, n-1), make([]int, n+1), make([]int, 2*n)}
	far := []int{p + 1, -p, math.MinInt, math.MaxInt}
	for k := range n {
		for _, x := range []int{-1, p, far[k%len(far)]} {
			row := slices.Repeat([]int{1}, n)
			row[k] = x
			rows = append(rows, row)
		}
	}
	return rows
}

func TestWrongRows(t *testing.T) {
	for _, s := range fewSpaces() {
		for i, wrong := range wrongRows(s, false) {
			ahead := i%2 == 0
			first, second := goodArgs(s, ahead), goodArgs(s, ahead)
			first.a, second.b = copyOf(wrong, ahead), copyOf(wrong, ahead)
			for _, f := range rowsFunctions() {
				if f.one {
					checkRows(t, f, first)
				}
				if f.two {
					checkRows(t, f, second)
				}
			}
		}
	}
}

// Rows of one prime are good for another one only as far as its numbers go.
func TestRowsInTheWrongOrder(t *testing.T) {
	for _, n := range ringSizes {
		small, great := fittingPrimes(n, 1, 1)[0], fittingPrimes(n, 1, -1)[0]
		s, other := impl.Space{N: n, Primes: []int{small, great}}, impl.Space{N: n, Primes: []int{great, small}}
		for _, a := range edgeRows(s, false) {
			x := goodArgs(other, false)
			x.a = a
			checkAllOfRows(t, x)
		}
	}
}

func TestOneAheadAndOneNot(t *testing.T) {
	d := dice(63)
	for _, s := range goodSpaces() {
		for _, ahead := range []bool{false, true} {
			x := goodArgs(s, ahead)
			x.b = d.rows(s, !ahead)
			for _, f := range rowsFunctions() {
				if f.two {
					checkRows(t, f, x)
				}
			}
			// the same numbers, but for what they are said to be
			x.b = copyOf(x.a, !ahead)
			for _, f := range rowsFunctions() {
				if f.two {
					checkRows(t, f, x)
				}
			}
		}
	}
}

func TestTurnsOfAnyKindByRows(t *testing.T) {
	for _, s := range fewSpaces() {
		turns := slices.Clone(edgeInts)
		for g := -2*s.N - 1; g <= 4*s.N+1; g++ {
			turns = append(turns, g)
		}
		for _, f := range rowsFunctions() {
			for _, g := range turns {
				for _, ahead := range []bool{false, true} {
					x := goodArgs(s, ahead)
					x.g = g
					if f.turn {
						checkRows(t, f, x)
					}
				}
			}
		}
	}
}

func TestZeroAnswersOfRows(t *testing.T) {
	for _, s := range []impl.Space{{}, {N: 2}, {Primes: []int{5}}, {N: 3, Primes: []int{7}}, {N: 2, Primes: []int{5, 5}}, {N: 4, Primes: []int{5}}, {N: 32, Primes: []int{193}}, {N: 1, Primes: []int{3}}} {
		for _, ahead := range []bool{false, true} {
			x := filledArgs(s, len(s.Primes), ahead)
			for _, f := range rowsFunctions() {
				if got := f.call(x); got.ok || got.rows.Ahead || len(got.rows.Rows) != 0 || len(got.wholes) != 0 {
					t.Errorf("%s of %v = %v", f.name, x, got)
				}
			}
		}
	}
	for _, f := range rowsFunctions() {
		checkRows(t, f, rowsArgs{})
		checkRows(t, f, rowsArgs{a: impl.Rows{Ahead: true}, b: impl.Rows{Ahead: true}})
		if got := f.call(rowsArgs{}); !got.same(rowsAnswer{}) {
			t.Errorf("%s of nothing = %v", f.name, got)
		}
	}
}

// What lacks is not taken from behind the length, however good it would be.
func TestWhatLiesBehindALength(t *testing.T) {
	for _, s := range fewSpaces() {
		for _, f := range rowsFunctions() {
			for _, x := range cutArgs(s, f) {
				mustAnswer(t, f.name, func() {
					if got := f.call(x); !got.same(f.wanted(x)) {
						t.Errorf("%s of %v = %v", f.name, x, got)
					}
				})
			}
		}
	}
}

// cutArgs lack one thing each, which lies behind the length of what is there.
func cutArgs(s impl.Space, f ofRows) []rowsArgs {
	last := len(s.Primes) - 1
	fewerRows, shortRow, fewerPrimes, fewerWholes := goodArgs(s, false), goodArgs(s, true), goodArgs(s, false), goodArgs(s, false)
	fewerRows.a.Rows = fewerRows.a.Rows[:last]
	shortRow.a.Rows[last] = shortRow.a.Rows[last][:s.N-1]
	fewerPrimes.space.Primes = fewerPrimes.space.Primes[:last]
	fewerWholes.wholes = fewerWholes.wholes[:s.N-1]
	other := shortRow
	other.a, other.b = other.b, other.a
	return []rowsArgs{fewerRows, shortRow, fewerPrimes, fewerWholes, other}
}

// One row in several places, and lists that lie in one another, are only read.
func TestRowsThatShareMemory(t *testing.T) {
	for _, n := range ringSizes {
		s := impl.Space{N: n, Primes: fittingPrimes(n, 3, -1)}
		memory := make([]int, 2*n)
		for i := range memory {
			memory[i] = 1 + i
		}
		before, primes := slices.Clone(memory), slices.Clone(s.Primes)
		row := memory[:n]
		overlapping := [][]int{row, memory[1 : n+1], memory[n:]}
		for _, ahead := range []bool{false, true} {
			x := rowsArgs{space: s, a: impl.Rows{Ahead: ahead, Rows: [][]int{row, row, row}}, b: impl.Rows{Ahead: ahead, Rows: overlapping}, wholes: slices.Repeat([]impl.Whole{{Limbs: row}}, n), by: impl.Whole{Neg: true, Limbs: row}, g: n + 1}
			same := x
			same.b = x.a
			for _, args := range []rowsArgs{x, same} {
				for _, f := range rowsFunctions() {
					got, want := f.call(args), f.wanted(args)
					lists := slices.Concat(got.rows.Rows, limbLists(got.wholes))
					if !got.ok || !got.same(want) || !apart(lists) {
						t.Errorf("%s of %v = %v, want %v", f.name, args, got, want)
					}
					scribble(lists, -77)
					got.clearOuter()
					if !slices.Equal(memory, before) || !slices.Equal(s.Primes, primes) || !slices.EqualFunc(args.a.Rows, [][]int{row, row, row}, sameMemory) {
						t.Fatalf("%s changes its lists", f.name)
					}
				}
			}
		}
	}
}

// The list of the primes as a row, and as limbs, is refused or read, and never written.
func TestPrimesAsRowsAndLimbs(t *testing.T) {
	for _, n := range []int{2, 4} {
		l := fittingPrimes(n, n, -1)
		s, before := impl.Space{N: n, Primes: l}, slices.Clone(l)
		rows := impl.Rows{Rows: slices.Repeat([][]int{l}, n)}
		x := rowsArgs{space: s, a: rows, b: rows, wholes: slices.Repeat([]impl.Whole{{Limbs: l}}, n), by: impl.Whole{Limbs: l}, g: 1}
		for _, f := range rowsFunctions() {
			got := f.call(x)
			if !got.same(f.wanted(x)) {
				t.Errorf("%s of %v = %v", f.name, x, got)
			}
			scribble(slices.Concat(got.rows.Rows, limbLists(got.wholes)), -77)
			if !slices.Equal(l, before) {
				t.Fatalf("%s writes into the primes", f.name)
			}
		}
	}
}

// What one call tells is not what another one has told before.
func TestAnswersOfRowsAreNewMemory(t *testing.T) {
	for _, s := range fewSpaces() {
		for _, ahead := range []bool{false, true} {
			x := goodArgs(s, ahead)
			for _, f := range rowsFunctions() {
				one, two, want := f.call(x), f.call(x), f.wanted(x)
				lists := slices.Concat(one.rows.Rows, limbLists(one.wholes), two.rows.Rows, limbLists(two.wholes))
				if !apart(lists) {
					t.Errorf("%s of %v tells the same memory twice", f.name, x)
				}
				scribble(lists, -77)
				one.clearOuter()
				if slices.ContainsFunc(two.rows.Rows, func(row []int) bool { return row == nil }) {
					t.Errorf("%s of %v tells the same list of rows twice", f.name, x)
				}
				two.clearOuter()
				if again := f.call(x); !again.same(want) {
					t.Errorf("%s of %v = %v", f.name, x, again)
				}
			}
		}
	}
}
