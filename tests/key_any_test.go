package tests

import (
	"math"
	"runtime"
	"slices"
	"testing"
	"time"

	"loop.example/g00133/impl"
)

// Promise 14: every function of the chapter, at every edge and at wrong inputs, in every place.

// goodKeyArgs are as said for every function of the chapter.
func goodKeyArgs(p impl.Params) keyArgs {
	d := dice(850 + p.N)
	edges := edgeRows(spaceOf(p), false)
	k := impl.Pair{A: edges[1].Rows, B: edges[2].Rows}
	return keyArgs{p: p, s: d.small(p.N, 1), other: d.small(p.N, impl.MaxN), words: d.wordsOf(p), at: 3, g: 2*p.N - 1, k: k, want: d.small(p.N, farthestWant)}
}

// filledKeyArgs are as long as params ask for that may be none.
func filledKeyArgs(p impl.Params) keyArgs {
	x := keyArgs{p: p, words: fewWords(800), g: 1}
	if p.N < 0 || p.N > 100 {
		return x
	}
	x.s, x.other, x.want = make([]int, p.N), make([]int, p.N), make([]int, p.N)
	for range min(len(p.Primes), 20) {
		x.k.A, x.k.B = append(x.k.A, make([]int, p.N)), append(x.k.B, make([]int, p.N))
	}
	return x
}

// checkRefused asks the functions that take it for the zero answer, whatever the second reckoning says.
func checkRefused(t *testing.T, x keyArgs, takes func(f ofKey) bool) {
	t.Helper()
	for _, f := range keyFunctions() {
		if !takes(f) {
			continue
		}
		mustAnswer(t, f.name, func() {
			if got := f.call(x); !got.same(keyAnswer{}) {
				t.Errorf("%s of %.300v = %v", f.name, x, got)
			}
		})
		checkKey(t, f, x)
	}
}

func takesAny(f ofKey) bool    { return true }
func takesSecret(f ofKey) bool { return f.secret }
func takesOther(f ofKey) bool  { return f.other }
func takesWords(f ofKey) bool  { return f.words }
func takesTurn(f ofKey) bool   { return f.turn }
func takesPair(f ofKey) bool   { return f.pair }

func TestEveryGoodParams(t *testing.T) {
	for _, p := range goodParams() {
		x := goodKeyArgs(p)
		for _, f := range keyFunctions() {
			if want := checkKey(t, f, x); !want.ok {
				t.Errorf("%s of %v is refused", f.name, p)
			}
		}
	}
}

func TestKeysAtTheEdges(t *testing.T) {
	for _, p := range fewParams() {
		secrets, others, wants := edgeSmall(p.N, 1), edgeSmall(p.N, impl.MaxN), edgeSmall(p.N, farthestWant)
		rows := edgeRows(spaceOf(p), false)
		for i := range secrets {
			x := goodKeyArgs(p)
			x.s, x.other, x.want, x.g = secrets[i], others[i], wants[len(wants)-1-i], 2*(i%p.N)+1
			x.k = impl.Pair{A: rows[i%len(rows)].Rows, B: rows[(3*i+1)%len(rows)].Rows}
			checkAllOfKeys(t, x)
		}
	}
}

// T from 2 to 65536 or to one below the least prime, wherever that stands.
func TestHowGreatTMayBe(t *testing.T) {
	for _, n := range ringSizes {
		small, great := fittingPrimes(n, 2, 1), fittingPrimes(n, 2, -1)
		above, below := primeFor(n, greatestT+2*n+1, 1), primeFor(n, greatestT-2*n+1, -1)
		for _, l := range [][]int{small, backward(small), great, {great[0], small[0]}, {small[0], great[0]}, {great[0], small[1], great[1]}, {65537}, {above, 65537}, {above}, {below}, {below, above}, {above, below}} {
			least := slices.Min(l)
			ts := append([]int{-2, -1, 0, 1, 2, 3, least / 2, least - 2, least - 1, least, least + 1, slices.Max(l) - 1, slices.Max(l), greatestT - 1, greatestT, greatestT + 1, greatestT + 2, 2 * greatestT}, edgeInts...)
			for _, T := range ts {
				p := impl.Params{N: n, T: T, Noise: 1, Primes: l}
				if want := 2 <= T && T <= 65536 && T < least; impl.GoodParams(p) != want {
					t.Errorf("GoodParams(%v) is not %v", p, want)
				}
				if !isParams(p) {
					checkRefused(t, filledKeyArgs(p), takesAny)
				}
			}
		}
	}
}

func TestHowGreatNoiseMayBe(t *testing.T) {
	for _, p := range fewParams() {
		noises := slices.Clone(edgeInts)
		for b := -20; b < 40; b++ {
			noises = append(noises, b)
		}
		for _, b := range noises {
			p.Noise = b
			if want := b >= 1 && b <= 16; impl.GoodParams(p) != want {
				t.Errorf("GoodParams(%v) is not %v", p, want)
			}
			if b < 1 || b > 16 {
				x := goodKeyArgs(p)
				x.words = x.words[:400]
				checkRefused(t, x, takesAny)
			}
		}
	}
}

// MaxRow may be met exactly, though a space may have more.
func TestHowManyPrimesParamsMayHave(t *testing.T) {
	for _, n := range ringSizes {
		for count := range 9 {
			for _, step := range []int{1, -1} {
				p := impl.Params{N: n, T: 2, Noise: 2, Primes: fittingPrimes(n, count, step)}
				want := count >= 1 && count <= 4
				if impl.GoodParams(p) != want {
					t.Errorf("GoodParams(%v) is not %v", p, want)
				}
				x := filledKeyArgs(p)
				checkAllOfKeys(t, x)
				if !want {
					checkRefused(t, x, takesAny)
				}
			}
		}
	}
}

func TestWrongSizesOfParams(t *testing.T) {
	for _, p := range fewParams() {
		for _, n := range wrongSizes() {
			x := goodKeyArgs(p)
			x.p.N, x.words = n, x.words[:400]
			checkRefused(t, x, takesAny)
			checkRefused(t, filledKeyArgs(x.p), takesAny)
		}
	}
}

// A good N, and primes that are none, are alike, or fit another N.
func TestWrongPrimesOfParams(t *testing.T) {
	for _, p := range fewParams() {
		good := p.Primes
		wrong := wrongBases(good)
		for i := range good {
			for _, prime := range []int{2, 3, 7, 23, 268435399, primeFor(p.N, p.N+1, 1), primeFor(p.N, 3*p.N+1, 1), primeFor(p.N, impl.MaxPrime+1, 1), 2*p.N*p.N + 1} {
				l := slices.Clone(good)
				l[i] = prime
				wrong = append(wrong, l)
			}
		}
		for _, l := range wrong {
			p.Primes = l
			x := filledKeyArgs(p)
			checkAllOfKeys(t, x)
			if !isSpace(spaceOf(p)) {
				checkRefused(t, x, takesAny)
			}
		}
	}
}

func TestSizesOfParamsThatThePrimesDoNotFit(t *testing.T) {
	for _, n := range ringSizes {
		for prime := 2; prime < 250; prime++ {
			p := impl.Params{N: n, T: 2, Noise: 1, Primes: []int{prime}}
			want := bigOf(prime).ProbablyPrime(0) && prime%(2*n) == 1
			if impl.GoodParams(p) != want {
				t.Errorf("GoodParams(%v) is not %v", p, want)
			}
			checkAllOfKeys(t, filledKeyArgs(p))
		}
	}
}

// wrongSmall are not so many numbers of at most this size: by their length, or by one in each place in turn.
func wrongSmall(n int, most int) [][]int {
	lists := [][]int{nil, {}, make([]int, 1), make([]int, n-1), make([]int, n+1), make([]int, 2*n), make([]int, 1000)}
	far := []int{2*most + 1, -2*most - 1, math.MinInt, math.MaxInt, math.MinInt + most, math.MaxInt - most}
	for k := range n {
		for _, x := range []int{most + 1, -most - 1, far[k%len(far)], far[(k+3)%len(far)]} {
			a := make([]int, n)
			a[k] = x
			lists = append(lists, a)
		}
	}
	return lists
}

func TestWrongSecrets(t *testing.T) {
	for _, p := range fewParams() {
		for _, s := range wrongSmall(p.N, 1) {
			x := goodKeyArgs(p)
			x.s, x.words = s, x.words[:500]
			checkRefused(t, x, takesSecret)
		}
	}
}

func TestWrongOthers(t *testing.T) {
	for _, p := range fewParams() {
		for _, other := range wrongSmall(p.N, impl.MaxN) {
			x := goodKeyArgs(p)
			x.other = other
			checkRefused(t, x, takesOther)
		}
	}
}

func TestWrongWants(t *testing.T) {
	for _, p := range fewParams() {
		for _, want := range wrongSmall(p.N, farthestWant) {
			x := goodKeyArgs(p)
			x.want = want
			checkRefused(t, x, takesPair)
		}
	}
}

func TestTurnsOfAnyKindOfKeys(t *testing.T) {
	for _, p := range fewParams() {
		turns := slices.Clone(edgeInts)
		for g := -2*p.N - 1; g <= 4*p.N+1; g++ {
			turns = append(turns, g)
		}
		for _, g := range turns {
			x := goodKeyArgs(p)
			x.g = g
			checkKey(t, keyFunction("TurnFrom"), x)
			if g < 1 || g > 2*p.N-1 || g%2 == 0 {
				checkRefused(t, x, takesTurn)
			}
		}
	}
}

func TestWrongRowsOfAPair(t *testing.T) {
	for _, p := range fewParams() {
		for _, wrong := range wrongRows(spaceOf(p), false) {
			first, second, both := goodKeyArgs(p), goodKeyArgs(p), goodKeyArgs(p)
			first.k.A, second.k.B, both.k = wrong.Rows, wrong.Rows, impl.Pair{A: wrong.Rows, B: wrong.Rows}
			for _, x := range []keyArgs{first, second, both} {
				checkRefused(t, x, takesPair)
			}
		}
	}
}

// The rows of one prime are no rows of another one that is less.
func TestRowsOfAPairInTheWrongOrder(t *testing.T) {
	for _, n := range ringSizes {
		small, great := fittingPrimes(n, 1, 1)[0], fittingPrimes(n, 1, -1)[0]
		p := impl.Params{N: n, T: 2, Noise: 1, Primes: []int{small, great}}
		x := goodKeyArgs(p)
		slices.Reverse(p.Primes)
		checkRefused(t, x, takesPair)
	}
}

// Just enough words, one too few, and fewer, from the first word on and from a later one.
func TestJustEnoughWordsForAKey(t *testing.T) {
	for _, p := range goodParams() {
		x := goodKeyArgs(p)
		for _, f := range keyFunctions() {
			if !f.words {
				continue
			}
			for _, at := range []int{0, 3, 41} {
				x.at = at
				next := f.wanted(x).next
				y := x
				y.words = x.words[:next]
				if want := checkKey(t, f, y); !want.ok || want.next != len(y.words) {
					t.Errorf("%s of just enough words: %v", f.name, want)
				}
				for _, count := range []int{next - 1, next - p.N, (at + next) / 2, at} {
					y.words = x.words[:count]
					if got := f.call(y); !got.same(keyAnswer{}) {
						t.Errorf("%s of %d words, and needs %d: %v", f.name, count, next, got)
					}
					checkKey(t, f, y)
				}
			}
		}
	}
}

// Each word that lacks is seen, in whichever row and pair it lacks.
func TestEveryNumberOfWords(t *testing.T) {
	for _, n := range []int{2, 4} {
		p := impl.Params{N: n, T: 2, Noise: 2, Primes: fittingPrimes(n, 3, 1)}
		x := keyArgs{p: p, s: slices.Repeat([]int{1}, n), other: slices.Repeat([]int{16}, n), g: 1}
		for count := range 3*4*n + 3 {
			x.words = slices.Repeat([]int{9}, count)
			for _, f := range keyFunctions() {
				if !f.words {
					continue
				}
				needs := map[string]int{"SecretFrom": n, "PublicFrom": 4 * n}[f.name]
				if needs == 0 {
					needs = 3 * 4 * n
				}
				got := f.call(x)
				if got.ok != (count >= needs) || got.ok && got.next != needs {
					t.Errorf("%s of %d words, and needs %d: %v", f.name, count, needs, got)
				}
				checkKey(t, f, x)
			}
		}
	}
}

func TestWordsOfKeysThatAreNone(t *testing.T) {
	for _, p := range fewParams() {
		good := goodKeyArgs(p)
		good.words = good.words[:600]
		for _, wrong := range wrongWords() {
			for _, place := range []int{0, 2, 3, 4, 300, 599} {
				x := good
				x.words = slices.Clone(good.words)
				x.words[place] = wrong
				checkRefused(t, x, takesWords)
			}
		}
		for _, at := range append([]int{-600, 601, 1200, impl.MaxWords, impl.MaxWords + 1}, edgeInts...) {
			x := good
			x.at = at
			for _, f := range keyFunctions() {
				checkKey(t, f, x)
			}
			if at < 0 || at > 600 {
				checkRefused(t, x, takesWords)
			}
		}
	}
}

func TestKeysOfAsManyWordsAsThereMayBe(t *testing.T) {
	p := impl.Params{N: impl.MaxN, T: 2, Noise: 16, Primes: fittingPrimes(impl.MaxN, impl.MaxRow, -1)}
	for _, count := range []int{impl.MaxWords - 1, impl.MaxWords, impl.MaxWords + 1, 3 * impl.MaxWords} {
		x := goodKeyArgs(p)
		x.words = slices.Repeat([]int{77, 1 << 31, 5}, count/3+1)[:count]
		for _, at := range []int{0, count - 320, count - 319, count - 80, count - 79, count - 16, count - 15, count - 1, count} {
			x.at = at
			for _, f := range keyFunctions() {
				if f.words {
					checkKey(t, f, x)
				}
			}
			if count > impl.MaxWords {
				checkRefused(t, x, takesWords)
			}
		}
	}
}

// Nearly all words are passed over, so a key goes through them all.
func TestKeysOfWordsThatArePassedOver(t *testing.T) {
	p := impl.Params{N: 2, T: 2, Noise: 1, Primes: []int{5, 13}}
	words := slices.Repeat([]int{twoTo32 - 1}, impl.MaxWords)
	x := keyArgs{p: p, s: []int{1, 0}, other: []int{16, -16}, g: 3, words: words}
	checkAllOfKeys(t, x)
	for _, place := range []int{100, 2000, 3000, 3998} {
		words[place] = 4
	}
	checkAllOfKeys(t, x)
	words[3500], words[3501], words[3502] = 8, 9, 10
	checkAllOfKeys(t, x)
}

func TestZeroAnswersOfKeys(t *testing.T) {
	for _, f := range keyFunctions() {
		checkKey(t, f, keyArgs{})
		if got := f.call(keyArgs{}); !got.same(keyAnswer{}) {
			t.Errorf("%s of nothing = %v", f.name, got)
		}
	}
	for _, p := range []impl.Params{{N: 2}, {N: 2, T: 2, Noise: 1}, {N: 2, T: 2, Primes: []int{5}}, {N: 2, Noise: 1, Primes: []int{5}}, {T: 2, Noise: 1, Primes: []int{5}}, {N: 1, T: 2, Noise: 1, Primes: []int{3}}, {N: 32, T: 2, Noise: 1, Primes: []int{193}}, {N: 2, T: 2, Noise: 1, Primes: []int{5, 5}}} {
		checkRefused(t, filledKeyArgs(p), takesAny)
	}
}

// All numbers at once at the edges of int.
func TestKeysAtAnyNumbers(t *testing.T) {
	few := []int{math.MinInt, -1, 0, 1, 2, 16, 17, 65536, 65537, math.MaxInt}
	for _, n := range few {
		for _, number := range few {
			for _, at := range few {
				list := slices.Repeat([]int{number}, 16)
				x := keyArgs{p: impl.Params{N: n, T: number, Noise: at, Primes: list[:4]}, s: list, other: list, words: list, at: at, g: number, k: impl.Pair{A: [][]int{list, list}, B: [][]int{list}}, want: list}
				checkAllOfKeys(t, x)
				x.p = impl.Params{N: 16, T: number, Noise: at, Primes: []int{65537}}
				x.k = impl.Pair{A: [][]int{list}, B: [][]int{list}}
				checkAllOfKeys(t, x)
			}
		}
	}
}

// What lacks is not taken from behind the length, however good it would be.
func TestWhatLiesBehindALengthOfKeys(t *testing.T) {
	for _, p := range fewParams() {
		for _, f := range keyFunctions() {
			for _, x := range cutKeyArgs(p) {
				mustAnswer(t, f.name, func() {
					if got := f.call(x); !got.same(f.wanted(x)) {
						t.Errorf("%s of %.600v = %v", f.name, x, got)
					}
				})
			}
		}
	}
}

// cutKeyArgs lack one thing each, which lies behind the length of what is there.
func cutKeyArgs(p impl.Params) []keyArgs {
	last := len(p.Primes) - 1
	var all []keyArgs
	for _, cut := range []func(x *keyArgs){
		func(x *keyArgs) { x.p.Primes = x.p.Primes[:last] },
		func(x *keyArgs) { x.s = x.s[:p.N-1] },
		func(x *keyArgs) { x.other = x.other[:p.N-1] },
		func(x *keyArgs) { x.want = x.want[:p.N-1] },
		func(x *keyArgs) { x.words = x.words[:x.at] },
		func(x *keyArgs) { x.words = x.words[:x.at+p.N-1] },
		func(x *keyArgs) { x.words = x.words[:x.at+p.N*(last+2)-1] },
		func(x *keyArgs) { x.k.A = x.k.A[:last] },
		func(x *keyArgs) { x.k.B = x.k.B[:last] },
		func(x *keyArgs) { x.k.A[last] = x.k.A[last][:p.N-1] },
		func(x *keyArgs) { x.k.B[last] = x.k.B[last][:p.N-1] },
	} {
		x := goodKeyArgs(p)
		cut(&x)
		all = append(all, x)
	}
	return all
}

// One list in several places, and lists that lie in one another, are only read.
func TestKeysOfListsThatShareMemory(t *testing.T) {
	for _, n := range ringSizes {
		p := impl.Params{N: n, T: 2, Noise: 3, Primes: fittingPrimes(n, 3, -1)}
		memory := slices.Repeat([]int{1, 0, 1, 1}, 200)
		before, primes := slices.Clone(memory), slices.Clone(p.Primes)
		row := memory[:n]
		rows := [][]int{row, memory[1 : n+1], row}
		x := keyArgs{p: p, s: row, other: row, want: row, words: memory, g: n + 1, k: impl.Pair{A: rows, B: rows}}
		for _, f := range keyFunctions() {
			got, want := f.call(x), f.wanted(x)
			lists := got.lists()
			if !got.ok || !got.same(want) || !apart(lists) || !outerApart(got.outerLists()) {
				t.Errorf("%s of %.600v = %v, want %v", f.name, x, got, want)
			}
			scribble(lists, -77)
			if !slices.Equal(memory, before) || !slices.Equal(p.Primes, primes) || !sameMemory(rows[0], row) || !sameMemory(rows[2], row) {
				t.Fatalf("%s changes its lists", f.name)
			}
		}
	}
}

// What one call tells is not what another one has told before, and no call changes what the next one tells.
func TestAnswersOfKeysAreNewMemory(t *testing.T) {
	for _, p := range fewParams() {
		x := goodKeyArgs(p)
		for _, f := range keyFunctions() {
			one, two, want := f.call(x), f.call(x), f.wanted(x)
			lists := slices.Concat(one.lists(), two.lists())
			if !one.same(two) || !apart(lists) {
				t.Errorf("%s of %v tells the same memory twice", f.name, p)
			}
			scribble(lists, -77)
			if !outerApart(slices.Concat(one.outerLists(), two.outerLists())) {
				t.Errorf("%s of %v tells the same list of rows twice", f.name, p)
			}
			clear(one.pairs[:cap(one.pairs)])
			if slices.ContainsFunc(two.pairs, func(pair impl.Pair) bool { return pair.A == nil }) {
				t.Errorf("%s of %v tells the same list of pairs twice", f.name, p)
			}
			if again := f.call(x); !again.same(want) {
				t.Errorf("%s of %v = %v", f.name, p, again)
			}
		}
	}
}

// Nothing of a call goes on behind its answer, also where there are not words enough.
func TestKeysLeaveNothingRunning(t *testing.T) {
	p := impl.Params{N: impl.MaxN, T: 2, Noise: 1, Primes: fittingPrimes(impl.MaxN, impl.MaxRow, -1)}
	x := goodKeyArgs(p)
	lacking := x
	lacking.words = x.words[:200]
	before := runtime.NumGoroutine()
	for range 100 {
		for _, f := range keyFunctions() {
			f.call(x)
			f.call(lacking)
		}
	}
	// one that has told that it is done may still be going away
	for range 200 {
		if runtime.NumGoroutine() <= before {
			return
		}
		time.Sleep(10 * time.Millisecond)
	}
	t.Errorf("%d are running, and were %d before", runtime.NumGoroutine(), before)
}
