package tests

import (
	"math"
	"slices"
	"testing"

	"loop.example/g00133/impl"
)

// Promise 14: every function of the chapter, at every edge and at wrong inputs, in every place.

func TestConversionsAtTheEdges(t *testing.T) {
	for i, from := range goodBases() {
		for k, r := range edgeResidues(from) {
			tos := append(otherBases(), from)
			for _, to := range [][]int{tos[(i+k)%len(tos)], tos[(i+5*k+3)%len(tos)]} {
				x := goodConv(r, from, to)
				checkAllOfConv(t, x)
				x.rest = edgeResidues(to)[k%len(edgeResidues(to))]
				checkAllOfConv(t, x)
			}
		}
	}
}

// Every pair of bases: those that share primes, or hold a 2, are as said for some functions alone.
func TestEveryPairOfBases(t *testing.T) {
	d := dice(72)
	for _, from := range goodBases() {
		for _, to := range append(otherBases(), from, backward(from), from[:1]) {
			checkAllOfConv(t, goodConv(d.residues(from), from, to))
		}
	}
}

// twoBases are some pairs without a prime in common and without 2, of one prime and of MaxPrimes.
func twoBases() [][2][]int {
	return [][2][]int{
		{{3}, {5}}, {{lastPrime}, {3}}, {{5}, {lastPrime}}, {{3, 5, 7}, {11, 13}}, {{13, 11}, {7, 3, 5}},
		{greatPrimes(impl.MaxPrimes), smallPrimes(impl.MaxPrimes + 1)[1:]}, {smallPrimes(impl.MaxPrimes + 1)[1:], backward(greatPrimes(impl.MaxPrimes))},
	}
}

// convPairs are as said for every function.
func convPairs(t *testing.T) []convArgs {
	t.Helper()
	d := dice(73)
	var all []convArgs
	for _, pair := range twoBases() {
		x := goodConv(d.residues(pair[0]), pair[0], pair[1])
		for _, f := range convFunctions() {
			if !f.asSaid(x) || !f.call(x).ok {
				t.Fatalf("%s is not asked as said by %+v", f.name, x)
			}
		}
		all = append(all, x)
	}
	return all
}

func TestWrongBasesOfConversions(t *testing.T) {
	for _, good := range convPairs(t) {
		for _, l := range wrongBases(good.from) {
			x := good
			x.from = l
			checkAllOfConv(t, x)
			// residues that are as many as the wrong basis asks for
			x.r = make([]int, len(l))
			checkAllOfConv(t, x)
		}
		for _, l := range wrongBases(good.to) {
			x := good
			x.to = l
			checkAllOfConv(t, x)
			x.rest = make([]int, len(l))
			checkAllOfConv(t, x)
		}
	}
}

func TestWrongResiduesOfConversions(t *testing.T) {
	for _, from := range goodBases() {
		for _, r := range wrongResidues(from) {
			checkAllOfConv(t, goodConv(r, from, []int{786433, 97}))
		}
	}
	for _, good := range convPairs(t) {
		for _, rest := range wrongResidues(good.to) {
			x := good
			x.rest = rest
			checkAllOfConv(t, x)
		}
	}
}

func TestExtrasOfAnyKind(t *testing.T) {
	exact := convFunction("ExactConvert")
	for _, x := range append(convPairs(t), goodConv([]int{1}, []int{2}, []int{2}), goodConv([]int{1, 1}, []int{5, 2}, []int{5, 3})) {
		x.at = 0
		extras := slices.Concat(edgeInts, wrongNumbers(), x.from, x.to, extrasFor(x.from, x.to))
		for n := -3; n < 60; n++ {
			extras = append(extras, n)
		}
		for _, extra := range extras {
			x.extra = extra
			checkConv(t, exact, x)
		}
	}
}

// An extra is above twice the number of from's primes, however many primes to has.
func TestHowGreatAnExtraMustBe(t *testing.T) {
	prime := sieve(40)
	for count := 1; count <= impl.MaxPrimes; count++ {
		for _, to := range [][]int{{lastPrime}, greatPrimes(2 * impl.MaxPrimes)[impl.MaxPrimes:]} {
			from := greatPrimes(count + 1)[1:]
			for extra := range prime {
				_, ok := impl.ExactConvert(make([]int, count), from, extra, 0, to)
				if want := prime[extra] && extra > 2*count; ok != want {
					t.Errorf("extra %d with %d primes: %v", extra, count, ok)
				}
			}
		}
	}
}

// atsFor lie at and beside 0, half and the whole, and far off.
func atsFor(m int) []int {
	return []int{math.MinInt, -m, -2, -1, 0, 1, 2, m/2 - 1, m / 2, m/2 + 1, m - 2, m - 1, m, m + 1, 2 * m, math.MaxInt}
}

func TestAtsOfAnyKind(t *testing.T) {
	exact, mont := convFunction("ExactConvert"), convFunction("SmallMont")
	for _, x := range convPairs(t) {
		for _, extra := range extrasFor(x.from, x.to) {
			x.extra = extra
			for _, at := range atsFor(extra) {
				x.at = at
				checkConv(t, exact, x)
			}
		}
		for _, m := range smallPowers() {
			x.m = m
			for _, at := range atsFor(m) {
				x.at = at
				checkConv(t, mont, x)
			}
		}
	}
}

func TestSmallOnesOfAnyKind(t *testing.T) {
	mont := convFunction("SmallMont")
	for _, x := range convPairs(t) {
		powers := slices.Clone(edgeInts)
		for shift := range 64 {
			power := 1 << shift
			powers = append(powers, power-1, power, power+1, -power, 3*power)
		}
		for _, m := range powers {
			for _, at := range []int{0, 1, 3} {
				x.m, x.at = m, at
				checkConv(t, mont, x)
			}
		}
	}
}

// A 2 in either basis, in any place.
func TestNoTwoInSmallMont(t *testing.T) {
	for _, x := range convPairs(t) {
		for i := range x.from {
			y := x
			y.from, y.r = slices.Clone(x.from), slices.Clone(x.r)
			y.from[i], y.r[i] = 2, 1
			checkAllOfConv(t, y)
		}
		for i := range x.to {
			y := x
			y.to, y.rest = slices.Clone(x.to), slices.Clone(x.rest)
			y.to[i], y.rest[i] = 2, 0
			checkAllOfConv(t, y)
		}
	}
}

// One prime in common, in each place of both bases.
func TestPrimesInCommon(t *testing.T) {
	for _, x := range convPairs(t) {
		for i := range x.from {
			for k := range x.to {
				y := x
				y.to, y.rest = slices.Clone(x.to), make([]int, len(x.to))
				y.to[k] = x.from[i]
				checkAllOfConv(t, y)
			}
		}
	}
}

func TestScalesOfAnyKind(t *testing.T) {
	down := convFunction("ScaleDown")
	bases := append([][]int{{2}, {2, 3, 5}}, greatPrimes(2), []int{65521, 3}, []int{257, 17})
	for _, from := range bases {
		x := convArgs{r: edgeResidues(from)[1], from: from}
		for _, t1 := range append([]int{6, 9, 15, 51, 65520, 65521, 65522, 65535, 65536, 65537, 65538, 131072}, edgeInts...) {
			for _, gamma := range slices.Concat(from, []int{t1, t1 + 1, 5, 7, 11, 17, 65521, 65537, 65539, 786433, 268435367, beyondPrime}, wrongNumbers()) {
				x.t, x.gamma = t1, gamma
				checkConv(t, down, x)
			}
		}
	}
	for _, from := range goodBases() {
		for _, r := range edgeResidues(from)[:2] {
			for _, s := range scalesFor(from) {
				checkConv(t, down, convArgs{r: r, from: from, t: s.t, gamma: s.gamma})
			}
		}
	}
}

// All small t and gamma by small bases.
func TestAllSmallScales(t *testing.T) {
	for _, from := range [][]int{{2}, {3}, {7}, {3, 2}, {5, 11}, {2, 7, 13}} {
		for small := -1; small < 40; small++ {
			for gamma := -1; gamma < 48; gamma++ {
				x := convArgs{r: edgeResidues(from)[1], from: from, t: small, gamma: gamma}
				down := convFunction("ScaleDown")
				if got, want := down.call(x), down.wanted(x); !got.same(want) {
					t.Errorf("ScaleDown of %+v = %v, want %v", x, got, want)
				}
			}
		}
	}
}

// A factor in common with q may be any of its primes, and t may be made of several.
func TestScalesWithFactorsInCommon(t *testing.T) {
	from := []int{7, 65521, 3, 2, 251, 13}
	for _, p := range from {
		for _, times := range []int{1, 5, 11, 25} {
			x := convArgs{r: make([]int, len(from)), from: from, t: p * times, gamma: lastPrime}
			if got := convFunction("ScaleDown").call(x); got.ok || got.number != 0 {
				t.Errorf("ScaleDown of %+v = %v", x, got)
			}
		}
		if n, ok := impl.ScaleDown(make([]int, len(from)), from, 5, p); ok || n != 0 {
			t.Errorf("ScaleDown with gamma %d of the basis = %d, %v", p, n, ok)
		}
	}
}

func TestZeroAnswersOfConversions(t *testing.T) {
	for _, x := range []convArgs{{}, {from: []int{4}, r: []int{1}, to: []int{3}}, {from: []int{3, 3}, r: []int{1, 1}, to: []int{3}}, {from: []int{3}, to: []int{5}}, {from: []int{3}, r: []int{3}, to: []int{5}}} {
		x.extra, x.at, x.m, x.t, x.gamma, x.rest = 101, 1, 4, 5, 11, make([]int, len(x.to))
		for _, f := range convFunctions() {
			if got := f.call(x); len(got.numbers) != 0 || got.number != 0 || got.ok {
				t.Errorf("%s of %+v = %v", f.name, x, got)
			}
		}
	}
}

// Lists that lie in one another are only read.
func TestConversionsOfListsThatOverlap(t *testing.T) {
	memory := []int{2, 3, 5, 7, 11, 13, 17, 19, 23, 29, 31, 37}
	before := slices.Clone(memory)
	for count := 1; count <= 5; count++ {
		for start := 1; start+2*count+1 < len(memory); start++ {
			part := func(at int) []int { return memory[at : at+count] }
			for _, x := range []convArgs{
				{r: part(start), rest: part(start - 1), from: part(start + 1), to: part(start)},
				{r: part(start), rest: part(start), from: part(start + 1), to: part(start + 1)},
				{r: part(start), rest: part(start + count), from: part(start + 1), to: part(start + count + 1)},
			} {
				x.extra, x.at, x.m, x.t, x.gamma = 101, 3, 8, 2, 97
				for _, f := range convFunctions() {
					checkConv(t, f, x)
					got := f.call(x)
					if want := f.wanted(x); !got.same(want) {
						t.Errorf("%s of %+v = %v, want %v", f.name, x, got, want)
					}
					scribble([][]int{got.numbers}, -77)
					if !slices.Equal(memory, before) {
						t.Fatalf("%s of %+v changes its lists", f.name, x)
					}
				}
			}
		}
	}
}

// What one call tells is not what another one has told before.
func TestAnswersOfConversionsAreNewMemory(t *testing.T) {
	for _, x := range convPairs(t) {
		for _, f := range convFunctions() {
			one, two := f.call(x), f.call(x)
			if !apart([][]int{one.numbers, two.numbers}) {
				t.Errorf("%s of %+v tells the same memory twice", f.name, x)
			}
			scribble([][]int{one.numbers, two.numbers}, -77)
			if again := f.call(x); !again.same(f.want(x)) {
				t.Errorf("%s of %+v = %v", f.name, x, again)
			}
		}
	}
}
