package tests

import (
	"math"
	"runtime"
	"slices"
	"testing"

	"loop.example/g00133/impl"
)

// Promise 14: every function of the chapter, at every edge and at wrong inputs, in every place.

// fewWords are words for which all draws of the tests below are as said.
func fewWords(count int) []int {
	d := dice(87)
	return d.wordsFor(3, count)
}

func TestCoinsAtTheEdges(t *testing.T) {
	for _, p := range coinModuli() {
		words := edgeWords(p)
		for at := range len(words) + 1 {
			for i, n := range []int{0, 1, 2, len(words) - at, longestRow} {
				checkAllCoins(t, coinArgs{words: words, at: at, p: p, b: 1 + (at+i)%impl.MaxNoise, n: n})
			}
		}
		for _, last := range words {
			checkAllCoins(t, coinArgs{words: []int{5, last}, at: 1, p: p, b: impl.MaxNoise, n: 1})
		}
	}
}

// No words at all: a row of none alone is told.
func TestNoWords(t *testing.T) {
	for _, words := range [][]int{nil, {}} {
		for _, at := range edgeInts {
			for _, n := range edgeInts {
				checkAllCoins(t, coinArgs{words: words, at: at, p: 7, b: 2, n: n})
			}
		}
	}
}

func TestAsManyWordsAsThereMayBe(t *testing.T) {
	for _, count := range []int{impl.MaxWords - 1, impl.MaxWords, impl.MaxWords + 1, 2 * impl.MaxWords, 1 << 17} {
		words := fewWords(count)
		for _, at := range []int{0, 1, impl.MaxWords - 65, impl.MaxWords - 64, impl.MaxWords - 1, impl.MaxWords, impl.MaxWords + 1, count - 1, count, count + 1} {
			for _, n := range []int{0, 1, longestRow} {
				checkAllCoins(t, coinArgs{words: words, at: at, p: impl.MaxPrime, b: 3, n: n})
			}
		}
		if _, next, ok := impl.NoiseFrom(words, 0, 1); ok != (count <= 4000) || ok != (next == 1) {
			t.Errorf("%d words: %d, %v", count, next, ok)
		}
	}
}

// wrongWords are none that may be there.
func wrongWords() []int {
	return []int{math.MinInt, math.MinInt + 1, -twoTo32 - 1, -twoTo32, -twoTo32 + 1, -1 << 31, -2, -1, twoTo32, twoTo32 + 1, 2 * twoTo32, 1 << 62, math.MaxInt - 1, math.MaxInt}
}

// One wrong word, in any place: ahead of at, at it, behind it, and behind all that is taken.
func TestOneWrongWord(t *testing.T) {
	good := []int{4, 0, twoTo32 - 1, 9, 1, 77, 3, 8}
	for place := range good {
		for _, wrong := range wrongWords() {
			words := slices.Clone(good)
			words[place] = wrong
			for at := range len(words) + 1 {
				for _, n := range []int{0, 1, 2} {
					x := coinArgs{words: words, at: at, p: 7, b: 2, n: n}
					for _, f := range coinFunctions() {
						if got := f.call(x); !got.same(coinAnswer{}) {
							t.Errorf("%s of %+v = %v", f.name, x, got)
						}
						checkCoin(t, f, x)
					}
				}
			}
		}
	}
}

func TestOneWrongWordAmongMany(t *testing.T) {
	words := fewWords(impl.MaxWords)
	for _, place := range []int{0, 1, 1999, impl.MaxWords - 2, impl.MaxWords - 1} {
		for _, wrong := range []int{-1, twoTo32} {
			other := slices.Clone(words)
			other[place] = wrong
			for _, at := range []int{0, 1, 2000, impl.MaxWords - 1, impl.MaxWords} {
				checkAllCoins(t, coinArgs{words: other, at: at, p: 7, b: 2, n: 1})
			}
		}
	}
}

func TestAtsOfCoinsOfAnyKind(t *testing.T) {
	for _, count := range []int{1, 2, 5, 70, impl.MaxWords} {
		words := fewWords(count)
		ats := append([]int{-count, count - 2, count - 1, count, count + 1, 2 * count, impl.MaxWords, impl.MaxWords + 1}, edgeInts...)
		for _, at := range ats {
			for _, n := range []int{0, 1, longestRow} {
				checkAllCoins(t, coinArgs{words: words, at: at, p: 7, b: 2, n: n})
			}
		}
	}
}

func TestModuliOfCoinsOfAnyKind(t *testing.T) {
	words := fewWords(80)
	for _, p := range append(wrongNumbers(), edgeInts...) {
		for _, at := range []int{-1, 0, 3, 80, 81} {
			for _, n := range []int{-1, 0, 1, longestRow, longestRow + 1} {
				x := coinArgs{words: words, at: at, p: p, n: n}
				checkCoin(t, coinFunction("UniformFrom"), x)
				checkCoin(t, coinFunction("UniformRow"), x)
			}
		}
	}
	for p := -100; p < 1000; p++ {
		_, _, one := impl.UniformFrom([]int{1}, 0, p)
		_, _, none := impl.UniformRow(nil, 0, p, 0)
		if want := p >= 2; one != want || none != want {
			t.Errorf("by %d: %v, %v", p, one, none)
		}
	}
}

func TestNoisesOfAnyKind(t *testing.T) {
	words := fewWords(80)
	bs := slices.Clone(edgeInts)
	for b := -70; b < 140; b++ {
		bs = append(bs, b)
	}
	for _, b := range bs {
		for _, at := range []int{-1, 0, 3, 79, 80, 81} {
			for _, n := range []int{-1, 0, 1, longestRow, longestRow + 1} {
				x := coinArgs{words: words, at: at, b: b, n: n}
				checkCoin(t, coinFunction("NoiseFrom"), x)
				checkCoin(t, coinFunction("NoiseRow"), x)
			}
		}
		_, _, one := impl.NoiseFrom(words, 0, b)
		_, _, none := impl.NoiseRow(nil, 0, b, 0)
		if want := b >= 1 && b <= 16; one != want || none != want {
			t.Errorf("NoiseFrom by %d: %v, %v", b, one, none)
		}
	}
}

// However many words there are, a row has at most 64.
func TestRowsOfAnyLength(t *testing.T) {
	words := slices.Repeat([]int{6}, 300)
	lengths := slices.Clone(edgeInts)
	for n := -70; n < 320; n++ {
		lengths = append(lengths, n)
	}
	for _, n := range lengths {
		for _, at := range []int{0, 1, 236, 237, 299, 300} {
			x := coinArgs{words: words, at: at, p: 5, b: 2, n: n}
			for _, f := range coinFunctions()[3:] {
				want := n >= 0 && n <= 64 && at+n <= 300
				if got := f.call(x); got.ok != want || want && (len(got.numbers) != n || got.next != at+n) {
					t.Errorf("%s of %d at %d = %v", f.name, n, at, got)
				}
				checkCoin(t, f, x)
			}
		}
	}
}

// All numbers at once at the edges of int.
func TestCoinsAtAnyNumbers(t *testing.T) {
	words := fewWords(100)
	few := []int{math.MinInt, -1, 0, 1, 2, 16, 17, 64, 65, 100, 101, impl.MaxPrime, impl.MaxPrime + 1, math.MaxInt}
	for _, at := range few {
		for _, by := range few {
			for _, n := range few {
				checkAllCoins(t, coinArgs{words: words, at: at, p: by, b: by, n: n})
			}
		}
	}
}

func TestZeroAnswersOfCoins(t *testing.T) {
	words := fewWords(100)
	good := coinArgs{words: words, at: 5, p: 7, b: 2, n: 4}
	var wrong []coinArgs
	for _, change := range []func(x *coinArgs){
		func(x *coinArgs) { x.words = nil },
		func(x *coinArgs) { x.words = words[:5] },
		func(x *coinArgs) { x.words = words[:4] },
		func(x *coinArgs) { x.words = append(slices.Clone(words), -1) },
		func(x *coinArgs) { x.words = append(slices.Clone(words), twoTo32) },
		func(x *coinArgs) { x.words = slices.Repeat(words, 41) },
		func(x *coinArgs) { x.words = slices.Repeat([]int{twoTo32 - 1}, 3); x.at = 4 },
		func(x *coinArgs) { x.at = -1 },
		func(x *coinArgs) { x.at = 100 },
		func(x *coinArgs) { x.at = 101 },
	} {
		x := good
		change(&x)
		wrong = append(wrong, x)
	}
	for _, f := range coinFunctions() {
		if got := f.call(good); !got.ok {
			t.Errorf("%s of what is as said: %v", f.name, got)
		}
		for _, x := range wrong {
			if got := f.call(x); len(got.numbers) != 0 || got.number != 0 || got.next != 0 || got.ok {
				t.Errorf("%s of %d words at %d = %v", f.name, len(x.words), x.at, got)
			}
		}
	}
}

// What lies behind the words in their memory is not drawn, be it good or not.
func TestWordsBehindTheLengthAreNotTaken(t *testing.T) {
	memory := slices.Repeat([]int{6}, 200)
	memory[90] = -1
	for length := range 80 {
		for _, at := range []int{0, length / 2, max(0, length-1), length} {
			for _, n := range []int{0, 1, length - at, length - at + 1} {
				x := coinArgs{words: memory[:length], at: at, p: 5, b: 2, n: n}
				y := x
				y.words = slices.Clone(x.words)
				for _, f := range coinFunctions() {
					if got, want := f.call(x), f.call(y); !got.same(want) || !got.same(f.wanted(x)) {
						t.Errorf("%s of %d words at %d, n %d = %v, without more memory %v", f.name, length, at, n, got, want)
					}
				}
			}
		}
	}
}

// What one call tells is not what another one has told before, and no call changes what the next one tells.
func TestAnswersOfCoinsAreNewMemory(t *testing.T) {
	words := fewWords(200)
	before := slices.Clone(words)
	for _, n := range []int{0, 1, 7, longestRow} {
		x := coinArgs{words: words, at: 3, p: 97, b: 5, n: n}
		for _, f := range coinFunctions() {
			one, two := f.call(x), f.call(x)
			if !one.same(two) || !apart([][]int{one.numbers, two.numbers}) {
				t.Errorf("%s of %d tells the same memory twice", f.name, n)
			}
			scribble([][]int{one.numbers, two.numbers}, -77)
			if again := f.call(x); !again.same(f.want(x)) || !slices.Equal(words, before) {
				t.Errorf("%s of %d = %v", f.name, n, again)
			}
		}
	}
}

// Nothing of a call goes on behind its answer, also where words are left over.
func TestCoinsLeaveNothingRunning(t *testing.T) {
	words := fewWords(impl.MaxWords)
	before := runtime.NumGoroutine()
	for at := range 40 {
		for _, f := range coinFunctions() {
			f.call(coinArgs{words: words, at: at, p: 7, b: 2, n: 3})
			f.call(coinArgs{words: words, at: impl.MaxWords - 1, p: 7, b: 2, n: 3})
		}
	}
	if after := runtime.NumGoroutine(); after > before {
		t.Errorf("%d are running, and were %d before", after, before)
	}
}
