package tests

import (
	"math"
	"slices"
	"testing"

	"loop.example/g00133/impl"
)

// Promise 14: every function of the chapter, at every edge and at wrong inputs, in every place.

// goodCipherArgs are as said for every function of the chapter that takes ciphers of so many Parts.
func goodCipherArgs(p impl.Params, parts int) cipherArgs {
	d := dice(950 + p.N)
	edges := edgeRows(spaceOf(p), false)
	x := cipherArgs{p: p, s: d.small(p.N, 1), m: d.plain(p), words: d.wordsOf(p)[:200], at: 3, g: 2*p.N - 1}
	x.k = impl.Pair{A: edges[1].Rows, B: edges[2].Rows}
	x.pairs, x.a, x.b = d.pairsOf(p, len(p.Primes)), d.cipher(p, parts), d.cipher(p, parts)
	return x
}

// filledCipherArgs are as long as params ask for that may be none.
func filledCipherArgs(p impl.Params, parts int) cipherArgs {
	x := cipherArgs{p: p, words: fewWords(100), g: 1}
	if p.N < 0 || p.N > 100 {
		return x
	}
	x.s, x.m = make([]int, p.N), make([]int, p.N)
	rows := func() [][]int {
		var rows [][]int
		for range min(len(p.Primes), 20) {
			rows = append(rows, make([]int, p.N))
		}
		return rows
	}
	x.k = impl.Pair{A: rows(), B: rows()}
	for range min(len(p.Primes), 20) {
		x.pairs = append(x.pairs, impl.Pair{A: rows(), B: rows()})
	}
	for range parts {
		x.a.Parts, x.b.Parts = append(x.a.Parts, rows()), append(x.b.Parts, rows())
	}
	return x
}

// eachOfCiphers goes through the functions that take it, with ciphers of each number of Parts that they take.
func eachOfCiphers(takes func(f ofCipher) bool, do func(f ofCipher, parts int)) {
	for _, f := range cipherFunctions() {
		if !takes(f) {
			continue
		}
		if f.parts == nil {
			do(f, 2)
		}
		for _, parts := range f.parts {
			do(f, parts)
		}
	}
}

// refusedCipher asks for the zero answer, whatever the second reckoning says.
func refusedCipher(t *testing.T, f ofCipher, x cipherArgs) {
	t.Helper()
	mustAnswer(t, f.name, func() {
		if got := f.call(x); !got.same(cipherAnswer{}) {
			t.Errorf("%s of %.300v = %v", f.name, x, got)
		}
	})
	checkCipher(t, f, x)
}

// refusedWith changes what is as said in one way, and asks all functions for the zero answer that take what was changed.
func refusedWith(t *testing.T, p impl.Params, takes func(f ofCipher) bool, change func(x *cipherArgs)) {
	t.Helper()
	eachOfCiphers(takes, func(f ofCipher, parts int) {
		x := goodCipherArgs(p, parts)
		change(&x)
		refusedCipher(t, f, x)
	})
}

// refusedParams asks all functions for the zero answer, with lists as long as these params ask for.
func refusedParams(t *testing.T, p impl.Params) {
	t.Helper()
	eachOfCiphers(anyOfCiphers, func(f ofCipher, parts int) { refusedCipher(t, f, filledCipherArgs(p, parts)) })
}

func anyOfCiphers(f ofCipher) bool { return true }
func givenPlain(f ofCipher) bool   { return f.plain }
func givenSecret(f ofCipher) bool  { return f.secret }
func givenWords(f ofCipher) bool   { return f.words }
func givenTurn(f ofCipher) bool    { return f.turn }
func givenPair(f ofCipher) bool    { return f.pair }
func givenPairs(f ofCipher) bool   { return f.pairs }
func givenCipher(f ofCipher) bool  { return f.parts != nil }
func givenTwo(f ofCipher) bool     { return f.two }

func TestCiphersOfEveryGoodParams(t *testing.T) {
	for _, p := range goodParams() {
		eachOfCiphers(anyOfCiphers, func(f ofCipher, parts int) {
			if want := checkCipher(t, f, goodCipherArgs(p, parts)); !want.ok {
				t.Errorf("%s of %v is refused", f.name, p)
			}
		})
	}
}

func TestCiphersAtTheEdges(t *testing.T) {
	for _, p := range fewParams() {
		parts, plains, secrets := edgeParts(p), edgePlains(p), edgeSmall(p.N, 1)
		at := func(i int) [][]int { return parts[i%len(parts)] }
		for i := range parts {
			for count := 2; count <= 3; count++ {
				x := goodCipherArgs(p, count)
				x.m, x.s, x.g = plains[i%len(plains)], secrets[i%len(secrets)], 2*(i%p.N)+1
				x.k = impl.Pair{A: at(i), B: at(i + 1)}
				for k := range x.a.Parts {
					x.a.Parts[k], x.b.Parts[k] = at(i+k), at(3*i+2*k+1)
				}
				for k := range x.pairs {
					x.pairs[k] = impl.Pair{A: at(i + 2*k), B: at(5*i + k)}
				}
				checkAllOfCiphers(t, x)
			}
		}
	}
}

func TestPlainsAtTheEdges(t *testing.T) {
	for _, p := range goodParams() {
		for _, m := range edgePlains(p) {
			eachOfCiphers(givenPlain, func(f ofCipher, parts int) {
				x := goodCipherArgs(p, parts)
				x.m = m
				if want := checkCipher(t, f, x); !want.ok {
					t.Errorf("%s of the plain %v is refused: %v", f.name, m, p)
				}
			})
		}
	}
}

func TestTurnsOfEveryCipher(t *testing.T) {
	for _, p := range goodParams() {
		for g := 1; g < 2*p.N; g += 2 {
			x := goodCipherArgs(p, 2)
			x.g = g
			if want := checkCipher(t, cipherFunction("TurnCipher"), x); !want.ok {
				t.Errorf("a turn by %d is refused: %v", g, p)
			}
		}
	}
}

// A part that lacks in a sum is nought, whichever cipher it lacks in.
func TestSumsOfUnlikeCiphers(t *testing.T) {
	d := dice(951)
	for _, p := range goodParams() {
		for _, counts := range [][2]int{{2, 3}, {3, 2}} {
			x := cipherArgs{p: p, a: d.cipher(p, counts[0]), b: d.cipher(p, counts[1])}
			want := checkCipher(t, cipherFunction("AddCiphers"), x)
			if long := slices.Concat(x.a.Parts[2:], x.b.Parts[2:]); !want.ok || !sameLists(want.cipher.Parts[2], long[0]) {
				t.Errorf("%v: the third part of the sum is %v, and was %v", p, want.cipher.Parts[2], long)
			}
			// what takes ciphers of two Parts takes none of three beside it
			x.b, x.a = d.cipher(p, 2), d.cipher(p, 3)
			refusedCipher(t, cipherFunction("MulCiphers"), x)
			x.a, x.b = x.b, x.a
			refusedCipher(t, cipherFunction("MulCiphers"), x)
		}
	}
}

func TestWrongParamsOfCiphers(t *testing.T) {
	for _, p := range fewParams() {
		least := slices.Min(p.Primes)
		for _, T := range append([]int{-2, -1, 0, 1, least, least + 1, greatestT + 1, greatestT + 2, 2 * greatestT}, edgeInts...) {
			other := p
			other.T = T
			if !isParams(other) {
				refusedParams(t, other)
			}
		}
		for _, b := range append([]int{-16, 17, 18, 32}, edgeInts...) {
			other := p
			other.Noise = b
			if !isParams(other) {
				refusedWith(t, p, anyOfCiphers, func(x *cipherArgs) { x.p = other })
				refusedParams(t, other)
			}
		}
		for _, n := range wrongSizes() {
			other := p
			other.N = n
			refusedWith(t, p, anyOfCiphers, func(x *cipherArgs) { x.p = other })
			refusedParams(t, other)
		}
	}
}

// A good N, and primes that are none, are alike, or fit another N.
func TestWrongPrimesOfCiphers(t *testing.T) {
	for _, p := range fewParams() {
		good := p.Primes
		wrong := append(wrongBases(good), slices.Concat(good, fittingPrimes(p.N, 5, -1))[:5], fittingPrimes(p.N, 5, 1), fittingPrimes(p.N, impl.MaxPrimes, -1))
		for i := range good {
			for _, prime := range []int{2, 3, 7, 268435399, primeFor(p.N, impl.MaxPrime+1, 1), 2*p.N*p.N + 1} {
				l := slices.Clone(good)
				l[i] = prime
				wrong = append(wrong, l)
			}
		}
		for _, l := range wrong {
			p.Primes = l
			if isParams(p) {
				eachOfCiphers(anyOfCiphers, func(f ofCipher, parts int) { checkCipher(t, f, filledCipherArgs(p, parts)) })
			} else {
				refusedParams(t, p)
			}
		}
	}
}

// wrongPlains are no plains: by their length, or by a number in each place in turn.
func wrongPlains(p impl.Params) [][]int {
	n := p.N
	lists := [][]int{nil, {}, make([]int, 1), make([]int, n-1), make([]int, n+1), make([]int, 2*n), make([]int, 1000)}
	far := []int{p.T + 1, 2 * p.T, -p.T, math.MinInt, math.MaxInt, math.MinInt + p.T, math.MaxInt - p.T}
	for k := range n {
		for _, x := range []int{-1, p.T, far[k%len(far)], far[(k+3)%len(far)]} {
			m := make([]int, n)
			m[k] = x
			lists = append(lists, m)
		}
	}
	return lists
}

func TestWrongPlains(t *testing.T) {
	for _, p := range fewParams() {
		for _, m := range wrongPlains(p) {
			refusedWith(t, p, givenPlain, func(x *cipherArgs) { x.m = m })
		}
	}
}

func TestWrongSecretsOfCiphers(t *testing.T) {
	for _, p := range fewParams() {
		for _, s := range wrongSmall(p.N, 1) {
			refusedWith(t, p, givenSecret, func(x *cipherArgs) { x.s = s })
		}
	}
}

// Two or three Parts, and no other number of them; and just as many as a function takes.
func TestHowManyPartsACipherMayHave(t *testing.T) {
	d := dice(952)
	for _, p := range fewParams() {
		for _, count := range []int{0, 1, 2, 3, 4, 5, 6, 100} {
			c := d.cipher(p, count)
			eachOfCiphers(givenCipher, func(f ofCipher, parts int) {
				x := goodCipherArgs(p, parts)
				x.a = c
				first := checkCipher(t, f, x)
				if first.ok != slices.Contains(f.parts, count) {
					t.Errorf("%s of %d Parts: %v", f.name, count, first.ok)
				}
				if !first.ok {
					refusedCipher(t, f, x)
				}
				x = goodCipherArgs(p, parts)
				x.b = c
				if f.two && !slices.Contains(f.parts, count) {
					refusedCipher(t, f, x)
				}
				checkCipher(t, f, x)
			})
			if got := impl.GoodCipher(p, c); got != (count == 2 || count == 3) {
				t.Errorf("GoodCipher of %d Parts is %v", count, got)
			}
		}
		refusedWith(t, p, givenCipher, func(x *cipherArgs) { x.a.Parts = make([][][]int, len(x.a.Parts)) })
		refusedWith(t, p, givenTwo, func(x *cipherArgs) { x.b.Parts = make([][][]int, len(x.b.Parts)) })
	}
}

// Rows that are not good, in each Part of each cipher.
func TestWrongRowsOfACipher(t *testing.T) {
	for _, p := range fewParams() {
		for i, wrong := range wrongRows(spaceOf(p), false) {
			refusedWith(t, p, givenCipher, func(x *cipherArgs) { x.a.Parts[i%len(x.a.Parts)] = wrong.Rows })
			refusedWith(t, p, givenTwo, func(x *cipherArgs) { x.b.Parts[i%len(x.b.Parts)] = wrong.Rows })
		}
		for _, wrong := range fewWrongRows(p) {
			for place := range 3 {
				refusedWith(t, p, givenCipher, func(x *cipherArgs) { x.a.Parts[min(place, len(x.a.Parts)-1)] = wrong })
				refusedWith(t, p, givenTwo, func(x *cipherArgs) { x.b.Parts[min(place, len(x.b.Parts)-1)] = wrong })
			}
		}
	}
}

// fewWrongRows are one of each kind: too few, too many, a row too short, too long, with a number below 0, of the prime, far beyond it.
func fewWrongRows(p impl.Params) [][][]int {
	last := len(p.Primes) - 1
	var wrong [][][]int
	for _, change := range []func(rows [][]int) [][]int{
		func(rows [][]int) [][]int { return rows[:last] },
		func(rows [][]int) [][]int { return append(rows, make([]int, p.N)) },
		func(rows [][]int) [][]int { rows[0] = rows[0][:p.N-1]; return rows },
		func(rows [][]int) [][]int { rows[last] = append(rows[last], 0); return rows },
		func(rows [][]int) [][]int { rows[0][p.N-1] = -1; return rows },
		func(rows [][]int) [][]int { rows[last][0] = p.Primes[last]; return rows },
		func(rows [][]int) [][]int { rows[last][p.N-1] = math.MaxInt; return rows },
	} {
		wrong = append(wrong, change(leftRows(p, make([]int, p.N))))
	}
	return wrong
}

func TestWrongPairsOfCiphers(t *testing.T) {
	for _, p := range fewParams() {
		for i, wrong := range wrongRows(spaceOf(p), false) {
			refusedWith(t, p, givenPair, func(x *cipherArgs) { x.k.A = wrong.Rows })
			refusedWith(t, p, givenPair, func(x *cipherArgs) { x.k.B = wrong.Rows })
			refusedWith(t, p, givenPairs, func(x *cipherArgs) { x.pairs[i%len(x.pairs)].A = wrong.Rows })
			refusedWith(t, p, givenPairs, func(x *cipherArgs) { x.pairs[i%len(x.pairs)].B = wrong.Rows })
		}
		for _, wrong := range fewWrongRows(p) {
			for i := range p.Primes {
				refusedWith(t, p, givenPairs, func(x *cipherArgs) { x.pairs[i].A = wrong })
				refusedWith(t, p, givenPairs, func(x *cipherArgs) { x.pairs[i].B = wrong })
			}
		}
		refusedWith(t, p, givenPair, func(x *cipherArgs) { x.k = impl.Pair{} })
	}
}

func TestTooFewOrTooManyPairs(t *testing.T) {
	d := dice(953)
	for _, p := range goodParams() {
		for _, count := range []int{0, 1, 2, 3, 4, 5, 8, 100} {
			if count != len(p.Primes) {
				pairs := d.pairsOf(p, count)
				refusedWith(t, p, givenPairs, func(x *cipherArgs) { x.pairs = pairs })
			}
		}
		refusedWith(t, p, givenPairs, func(x *cipherArgs) { x.pairs = make([]impl.Pair, len(p.Primes)) })
	}
}

// The rows of one prime are no rows of another one that is less.
func TestRowsOfACipherInTheWrongOrder(t *testing.T) {
	for _, n := range ringSizes {
		small, great := fittingPrimes(n, 1, 1)[0], fittingPrimes(n, 1, -1)[0]
		p := impl.Params{N: n, T: 2, Noise: 1, Primes: []int{small, great}}
		takesRows := func(f ofCipher) bool { return f.pair || f.pairs || f.parts != nil }
		refusedWith(t, p, takesRows, func(x *cipherArgs) { x.p.Primes = []int{great, small} })
	}
}

func TestWrongTurnsOfCiphers(t *testing.T) {
	for _, p := range fewParams() {
		turns := slices.Clone(edgeInts)
		for g := -2*p.N - 1; g <= 4*p.N+1; g++ {
			turns = append(turns, g)
		}
		for _, g := range turns {
			if g < 1 || g > 2*p.N-1 || g%2 == 0 {
				refusedWith(t, p, givenTurn, func(x *cipherArgs) { x.g = g })
			}
		}
	}
}

// Just enough words, one too few, and fewer: each that lacks is seen, in u, in e and in f.
func TestJustEnoughWordsForACipher(t *testing.T) {
	encrypt := cipherFunction("Encrypt")
	for _, p := range goodParams() {
		x := goodCipherArgs(p, 2)
		for _, at := range []int{0, 3, 41} {
			x.at = at
			next := encrypt.wanted(x).next
			y := x
			y.words = x.words[:next]
			if want := checkCipher(t, encrypt, y); !want.ok || want.next != len(y.words) {
				t.Errorf("Encrypt of just enough words: %v", want)
			}
			for count := at; count < next; count++ {
				y.words = x.words[:count]
				if got := encrypt.call(y); !got.same(cipherAnswer{}) {
					t.Errorf("Encrypt of %d words, and needs %d: %v", count, next, got)
				}
			}
			y.words = x.words[:next-1]
			refusedCipher(t, encrypt, y)
		}
	}
}

func TestWordsOfCiphersThatAreNone(t *testing.T) {
	for _, p := range fewParams() {
		for _, wrong := range wrongWords() {
			for _, place := range []int{0, 2, 3, 4, 20, 60, 199} {
				refusedWith(t, p, givenWords, func(x *cipherArgs) {
					x.words = slices.Clone(x.words)
					x.words[place] = wrong
				})
			}
		}
		for _, at := range append([]int{-200, -1, 199, 200, 201, 400, impl.MaxWords, impl.MaxWords + 1}, edgeInts...) {
			x := goodCipherArgs(p, 2)
			x.at = at
			checkCipher(t, cipherFunction("Encrypt"), x)
			if at < 0 || at > 199 {
				refusedWith(t, p, givenWords, func(x *cipherArgs) { x.at = at })
			}
		}
	}
}

func TestCiphersOfAsManyWordsAsThereMayBe(t *testing.T) {
	p := impl.Params{N: impl.MaxN, T: 2, Noise: 16, Primes: fittingPrimes(impl.MaxN, impl.MaxRow, -1)}
	for _, count := range []int{impl.MaxWords - 1, impl.MaxWords, impl.MaxWords + 1, 3 * impl.MaxWords} {
		x := goodCipherArgs(p, 2)
		x.words = slices.Repeat([]int{77, 1 << 31, 5}, count/3+1)[:count]
		for _, at := range []int{0, count - 49, count - 48, count - 47, count - 32, count - 17, count - 16, count - 1, count} {
			x.at = at
			want := checkCipher(t, cipherFunction("Encrypt"), x)
			if want.ok != (count <= impl.MaxWords && at <= count-48) {
				t.Errorf("Encrypt of %d words at %d: %v", count, at, want.ok)
			}
			if !want.ok {
				refusedCipher(t, cipherFunction("Encrypt"), x)
			}
		}
	}
}

func TestZeroAnswersOfCiphers(t *testing.T) {
	for _, f := range cipherFunctions() {
		refusedCipher(t, f, cipherArgs{})
		refusedCipher(t, f, cipherArgs{a: impl.Cipher{Parts: make([][][]int, 2)}, b: impl.Cipher{Parts: make([][][]int, 2)}, g: 1})
		refusedCipher(t, f, cipherArgs{a: impl.Cipher{Parts: make([][][]int, 3)}, b: impl.Cipher{Parts: make([][][]int, 3)}, g: 1})
	}
	for _, p := range []impl.Params{{N: 2}, {N: 2, T: 2, Noise: 1}, {N: 2, T: 2, Primes: []int{5}}, {N: 2, Noise: 1, Primes: []int{5}}, {T: 2, Noise: 1, Primes: []int{5}}, {N: 1, T: 2, Noise: 1, Primes: []int{3}}, {N: 32, T: 2, Noise: 1, Primes: []int{193}}, {N: 2, T: 2, Noise: 1, Primes: []int{5, 5}}, {N: 2, T: 5, Noise: 1, Primes: []int{13, 5}}} {
		refusedParams(t, p)
	}
}

// All numbers at once at the edges of int.
func TestCiphersAtAnyNumbers(t *testing.T) {
	few := []int{math.MinInt, -1, 0, 1, 2, 16, 17, 65536, 65537, math.MaxInt}
	for _, n := range few {
		for _, number := range few {
			for _, at := range few {
				list := slices.Repeat([]int{number}, 16)
				rows := [][]int{list}
				pair := impl.Pair{A: rows, B: rows}
				c := impl.Cipher{Parts: [][][]int{rows, rows}}
				x := cipherArgs{p: impl.Params{N: n, T: number, Noise: at, Primes: list[:4]}, s: list, m: list, words: list, at: at, g: number, k: pair, pairs: []impl.Pair{pair}, a: c, b: c}
				checkAllOfCiphers(t, x)
				x.p = impl.Params{N: 16, T: number, Noise: at, Primes: []int{65537}}
				checkAllOfCiphers(t, x)
				x.p = impl.Params{N: 16, T: n, Noise: 1, Primes: []int{65537}}
				x.a = impl.Cipher{Parts: [][][]int{rows, rows, rows}}
				checkAllOfCiphers(t, x)
			}
		}
	}
}

// What lacks is not taken from behind the length, however good it would be.
func TestWhatLiesBehindALengthOfCiphers(t *testing.T) {
	for _, p := range fewParams() {
		last := len(p.Primes) - 1
		for _, cut := range []func(x *cipherArgs){
			func(x *cipherArgs) { x.p.Primes = slices.Clone(p.Primes)[:last] },
			func(x *cipherArgs) { x.s = x.s[:p.N-1] },
			func(x *cipherArgs) { x.m = x.m[:p.N-1] },
			func(x *cipherArgs) { x.words = x.words[:x.at] },
			func(x *cipherArgs) { x.words = x.words[:x.at+3*p.N-1] },
			func(x *cipherArgs) { x.k.A = x.k.A[:last] },
			func(x *cipherArgs) { x.k.B = x.k.B[:last] },
			func(x *cipherArgs) { x.k.A[last] = x.k.A[last][:p.N-1] },
			func(x *cipherArgs) { x.k.B[last] = x.k.B[last][:p.N-1] },
			func(x *cipherArgs) { x.pairs = x.pairs[:last] },
			func(x *cipherArgs) { x.pairs[last].A = x.pairs[last].A[:last] },
			func(x *cipherArgs) { x.pairs[last].B[last] = x.pairs[last].B[last][:p.N-1] },
			func(x *cipherArgs) { x.a.Parts = x.a.Parts[:1] },
			func(x *cipherArgs) { x.a.Parts = x.a.Parts[:2] },
			func(x *cipherArgs) { x.b.Parts = x.b.Parts[:1] },
			func(x *cipherArgs) { x.b.Parts = x.b.Parts[:2] },
			func(x *cipherArgs) { x.a.Parts[1] = x.a.Parts[1][:last] },
			func(x *cipherArgs) { x.a.Parts[1][last] = x.a.Parts[1][last][:p.N-1] },
		} {
			eachOfCiphers(anyOfCiphers, func(f ofCipher, parts int) {
				x := goodCipherArgs(p, parts)
				cut(&x)
				mustAnswer(t, f.name, func() {
					if got := f.call(x); !got.same(f.wanted(x)) {
						t.Errorf("%s of %.600v = %v", f.name, x, got)
					}
				})
			})
		}
	}
}

// One list in several places, and lists that lie in one another, are only read.
func TestCiphersOfListsThatShareMemory(t *testing.T) {
	for _, n := range ringSizes {
		p := impl.Params{N: n, T: 2, Noise: 3, Primes: fittingPrimes(n, 3, -1)}
		memory := slices.Repeat([]int{1, 0, 1, 1}, 200)
		before, primes := slices.Clone(memory), slices.Clone(p.Primes)
		row := memory[:n]
		rows := [][]int{row, memory[1 : n+1], row}
		pair := impl.Pair{A: rows, B: rows}
		eachOfCiphers(anyOfCiphers, func(f ofCipher, parts int) {
			c := impl.Cipher{Parts: slices.Repeat([][][]int{rows}, parts)}
			x := cipherArgs{p: p, s: row, m: row, words: memory, g: n + 1, k: pair, pairs: []impl.Pair{pair, pair, pair}, a: c, b: c}
			got, want := f.call(x), f.wanted(x)
			lists := got.lists()
			if !got.ok || !got.same(want) || !apart(lists) || !outerApart(got.outerLists()) {
				t.Errorf("%s of %.600v = %v, want %v", f.name, x, got, want)
			}
			scribble(lists, -77)
			if !slices.Equal(memory, before) || !slices.Equal(p.Primes, primes) || !sameMemory(rows[0], row) || !sameMemory(rows[2], row) {
				t.Fatalf("%s changes its lists", f.name)
			}
		})
	}
}

// What one call tells is not what another one has told before, and no call changes what the next one tells.
func TestAnswersOfCiphersAreNewMemory(t *testing.T) {
	for _, p := range fewParams() {
		eachOfCiphers(anyOfCiphers, func(f ofCipher, parts int) {
			x := goodCipherArgs(p, parts)
			one, two, want := f.call(x), f.call(x), f.wanted(x)
			lists := slices.Concat(one.lists(), two.lists())
			if !one.same(two) || !apart(lists) {
				t.Errorf("%s of %v tells the same memory twice", f.name, p)
			}
			scribble(lists, -77)
			if !outerApart(slices.Concat(one.outerLists(), two.outerLists())) {
				t.Errorf("%s of %v tells the same list of rows twice", f.name, p)
			}
			clear(one.cipher.Parts[:cap(one.cipher.Parts)])
			if slices.ContainsFunc(two.cipher.Parts, func(part [][]int) bool { return part == nil }) {
				t.Errorf("%s of %v tells the same list of Parts twice", f.name, p)
			}
			if again := f.call(x); !again.same(want) {
				t.Errorf("%s of %v = %v", f.name, p, again)
			}
		})
	}
}

func TestDrawnCiphers(t *testing.T) {
	d := dice(954)
	for range 300 {
		p := d.params()
		x := cipherArgs{p: p, s: d.small(p.N, 1), m: d.plain(p), g: 2*d.below(p.N) + 1, words: d.wordsOf(p)[:d.below(200)]}
		x.at = d.below(len(x.words) + 1)
		x.k, x.pairs = d.pairsOf(p, 1)[0], d.pairsOf(p, len(p.Primes))
		x.a, x.b = d.cipher(p, 2+d.below(2)), d.cipher(p, 2+d.below(2))
		checkAllOfCiphers(t, x)
	}
}
