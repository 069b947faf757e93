package tests

import (
	"fmt"
	"math/big"
	"slices"
	"testing"

	"loop.example/g00133/impl"
)

// Promise 7: what is drawn lies where it should, and row by row as one by one.

// drawUniform tells what UniformFrom answers, where there must be an answer.
func drawUniform(t *testing.T, words []int, at int, p int) (int, int) {
	t.Helper()
	n, next, ok := impl.UniformFrom(words, at, p)
	if !ok || n < 0 || n >= p || next <= at || next > len(words) {
		t.Fatalf("UniformFrom(%v, %d, %d) = %d, %d, %v", words, at, p, n, next, ok)
	}
	return n, next
}

func TestUniformTakesTheFirstWordBelowTheLastMultiple(t *testing.T) {
	for _, p := range coinModuli() {
		for _, word := range edgeWords(p) {
			words := []int{word, 5 * p, 1}
			n, next := drawUniform(t, words, 0, p)
			if word < lastMultiple(p) && (n != word%p || next != 1) || word >= lastMultiple(p) && (n != 0 || next != 2) {
				t.Errorf("by %d of %v: %d, %d", p, words, n, next)
			}
		}
	}
}

// The last multiple is the greatest one: the next would be beyond 2^32.
func TestLastMultiples(t *testing.T) {
	for _, p := range coinModuli() {
		multiple := lastMultiple(p)
		if n, next := drawUniform(t, []int{multiple - 1, 0}, 0, p); n != p-1 || next != 1 {
			t.Errorf("the word below %d by %d: %d, %d", multiple, p, n, next)
		}
		if n, next := drawUniform(t, []int{multiple - p, 1}, 0, p); n != 0 || next != 1 {
			t.Errorf("the word %d by %d: %d, %d", multiple-p, p, n, next)
		}
		if multiple+p <= twoTo32 || multiple%p != 0 {
			t.Errorf("%d is not the last multiple of %d", multiple, p)
		}
		for _, word := range passedBy(p) {
			if n, next, ok := impl.UniformFrom([]int{word}, 0, p); n != 0 || next != 0 || ok {
				t.Errorf("the word %d by %d is taken: %d, %d, %v", word, p, n, next, ok)
			}
		}
	}
}

// By a power of two no word is passed over.
func TestPowersOfTwoTakeEveryWord(t *testing.T) {
	for p := 2; p <= impl.MaxPrime; p *= 2 {
		for _, word := range []int{0, 1, p - 1, p, 1 << 31, twoTo32 - p, twoTo32 - 2, twoTo32 - 1} {
			if n, next := drawUniform(t, []int{word}, 0, p); n != word&(p-1) || next != 1 {
				t.Errorf("the word %d by %d: %d, %d", word, p, n, next)
			}
		}
	}
}

func TestManyWordsArePassedOver(t *testing.T) {
	for _, p := range []int{3, 5, 7, 97, 12289, lastPrime, impl.MaxPrime - 1} {
		passed := passedBy(p)
		for count := range 40 {
			words := slices.Concat([]int{8, 9}, slices.Repeat(passed, count)[:count])
			taken := append(slices.Clone(words), 3*p+1, 7)
			if n, next := drawUniform(t, taken, 2, p); n != 1 || next != count+3 {
				t.Errorf("%d words are passed over by %d: %d, %d", count, p, n, next)
			}
			if n, next, ok := impl.UniformFrom(words, 2, p); n != 0 || next != 0 || ok {
				t.Errorf("%d words that are passed over by %d are the last: %d, %d, %v", count, p, n, next, ok)
			}
		}
	}
}

// MaxWords of them: all but the last are passed over, or all.
func TestAllWordsArePassedOver(t *testing.T) {
	words := slices.Repeat([]int{twoTo32 - 1}, impl.MaxWords)
	words[impl.MaxWords-1] = 20
	if n, next := drawUniform(t, words, 0, 7); n != 6 || next != impl.MaxWords {
		t.Error("the last word of all", n, next)
	}
	if n, next, ok := impl.TernaryFrom(words, 0); n != -1 || next != impl.MaxWords || !ok {
		t.Error("the last word of all", n, next, ok)
	}
	words[impl.MaxWords-1] = twoTo32 - 2
	if n, next, ok := impl.UniformFrom(words, 0, 7); n != 0 || next != 0 || ok {
		t.Error("no word", n, next, ok)
	}
}

// Each number is drawn from as many words: all words of some multiples, from 0 on and up to the last one.
func TestUniformIsEven(t *testing.T) {
	for _, p := range []int{2, 3, 4, 5, 7, 60, 97, 100} {
		seen := make([]int, p)
		for k := range 3 * p {
			for _, word := range []int{k, lastMultiple(p) - 1 - k} {
				n, _ := drawUniform(t, []int{word}, 0, p)
				seen[n]++
			}
		}
		if slices.Min(seen) != 6 || slices.Max(seen) != 6 {
			t.Errorf("by %d each is drawn %v times", p, seen)
		}
	}
}

func TestTernaryIsUniformByThree(t *testing.T) {
	d := dice(81)
	words := append(d.wordsFor(3, 500), 0)
	for at := 0; at < len(words); {
		n, next := drawUniform(t, words, at, 3)
		got, gotNext, ok := impl.TernaryFrom(words, at)
		if !ok || got < -1 || got > 1 || (got-n)%3 != 0 || gotNext != next {
			t.Fatalf("TernaryFrom at %d of %v = %d, %d, %v, and UniformFrom by 3 %d, %d", at, words, got, gotNext, ok, n, next)
		}
		at = next
	}
}

// Each bit alone: one of the lowest b is 1 more, one of the next b is 1 less, all others are nothing.
func TestNoiseOfEachBit(t *testing.T) {
	for b := 1; b <= impl.MaxNoise; b++ {
		for bit := range 32 {
			want := 0
			if bit < b {
				want = 1
			} else if bit < 2*b {
				want = -1
			}
			n, next, ok := impl.NoiseFrom([]int{1 << bit}, 0, b)
			other, _, is := impl.NoiseFrom([]int{twoTo32 - 1 - 1<<bit}, 0, b)
			if n != want || next != 1 || !ok || other != -want || !is {
				t.Errorf("bit %d by %d: %d, %d, %v, and all others %d, %v", bit, b, n, next, ok, other, is)
			}
		}
	}
}

// From -b to b, both of which are drawn from one word alone (so far as the bits go), and all in between as often as the bits can lie so.
func TestNoiseLiesFromMinusBToB(t *testing.T) {
	for b := 1; b <= 6; b++ {
		seen := make([]int, 2*b+1)
		for low := range 1 << (2 * b) {
			word := low | twoTo32 - 1<<(2*b)
			n, _, ok := impl.NoiseFrom([]int{word}, 0, b)
			if !ok || n < -b || n > b {
				t.Fatalf("NoiseFrom(%d, %d) = %d, %v", word, b, n, ok)
			}
			seen[n+b]++
		}
		for i, often := range seen {
			if want := intOf(new(big.Int).Binomial(int64(2*b), int64(i))); often != want {
				t.Errorf("by %d %d is drawn %d times, want %d", b, i-b, often, want)
			}
		}
	}
	for b := 1; b <= impl.MaxNoise; b++ {
		most, _, _ := impl.NoiseFrom([]int{1<<b - 1}, 0, b)
		least, _, _ := impl.NoiseFrom([]int{(1<<b - 1) << b}, 0, b)
		all, _, _ := impl.NoiseFrom([]int{twoTo32 - 1}, 0, b)
		if most != b || least != -b || all != 0 {
			t.Errorf("by %d: %d, %d, %d", b, most, least, all)
		}
	}
}

// A noise takes one word, whichever it is.
func TestNoiseTakesOneWord(t *testing.T) {
	d := dice(82)
	words := d.wordsFor(3, 300)
	for at := range words {
		for _, b := range []int{1, 2, 7, 15, 16} {
			if _, next, ok := impl.NoiseFrom(words, at, b); next != at+1 || !ok {
				t.Errorf("NoiseFrom at %d: %d, %v", at, next, ok)
			}
		}
	}
}

// checkRowOneByOne holds a row against the program's own draws of one.
func checkRowOneByOne(t *testing.T, one ofCoin, row ofCoin, x coinArgs) {
	t.Helper()
	want := coinAnswer{next: x.at, ok: true}
	y := x
	for range x.n {
		y.at = want.next
		drawn := one.call(y)
		if !drawn.ok {
			want = coinAnswer{}
			break
		}
		want.numbers, want.next = append(want.numbers, drawn.number), drawn.next
	}
	if got := row.call(x); !got.same(want) {
		t.Errorf("%s of %d at %d of %d words, p %d, b %d = %v, one by one %v", row.name, x.n, x.at, len(x.words), x.p, x.b, got, want)
	}
}

func checkRowsOneByOne(t *testing.T, x coinArgs) {
	t.Helper()
	all := coinFunctions()
	for i, one := range all[:len(all)/2] {
		checkRowOneByOne(t, one, all[len(all)/2+i], x)
	}
}

func TestRowsAreOneByOne(t *testing.T) {
	d := dice(83)
	for range 400 {
		x := coinArgs{p: d.modulus(), b: 1 + d.below(impl.MaxNoise)}
		x.words = d.wordsFor(x.p, d.below(160))
		x.at = d.below(len(x.words) + 1)
		for _, n := range []int{0, 1, 2, d.below(longestRow), longestRow} {
			x.n = n
			checkRowsOneByOne(t, x)
		}
	}
}

// Many are told even where all words are passed over but one at the end of each stretch.
func TestLongRowsOfManyWords(t *testing.T) {
	for _, p := range []int{3, 7, lastPrime} {
		words := slices.Repeat([]int{twoTo32 - 1}, impl.MaxWords)
		for i := 61; i < len(words); i += 62 {
			words[i] = i
		}
		x := coinArgs{words: words, p: p, b: impl.MaxNoise, n: longestRow}
		checkRowsOneByOne(t, x)
		checkAllCoins(t, x)
		row, next, ok := impl.UniformRow(words, 0, p, longestRow)
		if !ok || next != 62*longestRow || row[0] != 61%p || row[longestRow-1] != (62*longestRow-1)%p {
			t.Errorf("by %d: %v, %d, %v", p, row, next, ok)
		}
	}
}

// A row that takes the very last word, and one that lacks a word.
func TestRowsUpToTheLastWord(t *testing.T) {
	d := dice(84)
	for n := 1; n <= longestRow; n++ {
		for _, ahead := range []int{0, 1, 50} {
			words := d.wordsFor(impl.MaxPrime, ahead+n)
			for i, word := range words {
				words[i] = word / 2
			}
			x := coinArgs{words: words, at: ahead, p: lastPrime, b: 1 + n%impl.MaxNoise, n: n}
			lacking := x
			lacking.words = words[:len(words)-1]
			for _, f := range coinFunctions()[3:] {
				if got := f.call(x); !got.ok || got.next != len(words) || len(got.numbers) != n {
					t.Errorf("%s of %d up to the last word: %v", f.name, n, got)
				}
				if got := f.call(lacking); !got.same(coinAnswer{}) {
					t.Errorf("%s of %d lacks a word: %v", f.name, n, got)
				}
				checkCoin(t, f, x)
				checkCoin(t, f, lacking)
			}
		}
	}
}

// A row of none takes no word, also where there is none any more.
func TestRowsOfNone(t *testing.T) {
	for _, words := range [][]int{nil, {}, {1}, {1, 2, twoTo32 - 1}, make([]int, impl.MaxWords)} {
		for _, at := range []int{0, len(words) / 2, len(words)} {
			for _, f := range coinFunctions()[3:] {
				if got := f.call(coinArgs{words: words, at: at, p: 5, b: 3}); len(got.numbers) != 0 || got.next != at || !got.ok {
					t.Errorf("%s of none at %d of %d: %v", f.name, at, len(words), got)
				}
			}
		}
	}
}

// What is drawn hangs on the words from at up to the next at alone: those ahead and those behind may be any.
func TestOnlyWordsThatAreTakenCount(t *testing.T) {
	d := dice(85)
	for range 150 {
		x := coinArgs{p: d.modulus(), b: 1 + d.below(impl.MaxNoise), n: 1 + d.below(longestRow)}
		x.words = d.wordsFor(x.p, 300)
		x.at = d.below(60)
		for _, f := range coinFunctions() {
			want := f.call(x)
			if !want.ok {
				t.Fatalf("%s at %d by %d: not words enough", f.name, x.at, x.p)
			}
			taken := x.words[x.at:want.next]
			y := x
			y.words = slices.Concat(d.wordsFor(x.p, x.at), taken, d.wordsFor(x.p, 5))
			if got := f.call(y); !got.same(want) {
				t.Errorf("%s among other words = %v, want %v", f.name, got, want)
			}
			y.words, y.at = taken, 0
			if got := f.call(y); !got.ok || got.next != len(taken) || !slices.Equal(got.numbers, want.numbers) || got.number != want.number {
				t.Errorf("%s of what was taken = %v, want %v", f.name, got, want)
			}
			y.words = taken[:len(taken)-1]
			if got := f.call(y); !got.same(coinAnswer{}) {
				t.Errorf("%s lacks the last word that was taken: %v", f.name, got)
			}
		}
	}
}

func TestDrawnCoins(t *testing.T) {
	d := dice(86)
	for range 1500 {
		x := coinArgs{p: d.modulus(), b: 1 + d.below(impl.MaxNoise), n: d.below(longestRow + 1)}
		x.words = d.wordsFor(x.p, d.below(150))
		x.at = d.below(len(x.words)/2 + 1)
		checkAllCoins(t, x)
	}
}

// Reckoned by hand: 2^32 leaves 4 by 7, 1 by 3, and 16 by 2^28 - 1.
func TestNamedCoins(t *testing.T) {
	top := twoTo32 - 1
	cases := []struct {
		name string
		x    coinArgs
		want coinAnswer
	}{
		{"UniformFrom", coinArgs{words: []int{top, 10}, p: 7}, drawnOne(3, 2, true)},
		{"UniformFrom", coinArgs{words: []int{4294967292, 4294967291}, p: 7}, drawnOne(6, 2, true)},
		{"UniformFrom", coinArgs{words: []int{4294967291, 10}, p: 7}, drawnOne(6, 1, true)},
		{"UniformFrom", coinArgs{words: []int{4294967280, 4294967279}, p: 268435455}, drawnOne(268435454, 2, true)},
		{"UniformFrom", coinArgs{words: []int{top}, p: impl.MaxPrime}, drawnOne(268435455, 1, true)},
		{"UniformFrom", coinArgs{words: []int{top}, p: 2}, drawnOne(1, 1, true)},
		{"UniformFrom", coinArgs{words: []int{8, 9, 10}, at: 1, p: 6}, drawnOne(3, 2, true)},
		{"UniformFrom", coinArgs{words: []int{8, 9, 10}, at: 3, p: 6}, coinAnswer{}},
		{"TernaryFrom", coinArgs{words: []int{5}}, drawnOne(-1, 1, true)},
		{"TernaryFrom", coinArgs{words: []int{top, 4294967294}}, drawnOne(-1, 2, true)},
		{"TernaryFrom", coinArgs{words: []int{3, 4}}, drawnOne(0, 1, true)},
		{"TernaryFrom", coinArgs{words: []int{3, 4}, at: 1}, drawnOne(1, 2, true)},
		{"TernaryFrom", coinArgs{words: []int{3, top}, at: 1}, coinAnswer{}},
		{"NoiseFrom", coinArgs{words: []int{7}, b: 2}, drawnOne(1, 1, true)},
		{"NoiseFrom", coinArgs{words: []int{7}, b: 1}, drawnOne(0, 1, true)},
		{"NoiseFrom", coinArgs{words: []int{0xffff0000}, b: 16}, drawnOne(-16, 1, true)},
		{"NoiseFrom", coinArgs{words: []int{0, 0xfff0ffff}, at: 1, b: 16}, drawnOne(4, 2, true)},
		{"UniformRow", coinArgs{words: []int{top, 10, 4294967292, 6, 7}, p: 7, n: 3}, drawnRow([]int{3, 6, 0}, 5, true)},
		{"UniformRow", coinArgs{words: []int{top, 10, 4294967292, 6, 7}, p: 7, n: 4}, coinAnswer{}},
		{"TernaryRow", coinArgs{words: []int{1, top, 2, 3, 4}, p: 7, n: 3}, drawnRow([]int{1, -1, 0}, 4, true)},
		{"NoiseRow", coinArgs{words: []int{9, 3, 12, 15, 2}, at: 1, b: 2, n: 3}, drawnRow([]int{2, -2, 0}, 4, true)},
		{"NoiseRow", coinArgs{words: []int{1}, b: 2, n: 2}, coinAnswer{}},
	}
	for _, c := range cases {
		if got := coinFunction(c.name).call(c.x); !got.same(c.want) {
			t.Errorf("%s of %s = %v, want %v", c.name, fmt.Sprintf("%+v", c.x), got, c.want)
		}
		checkCoin(t, coinFunction(c.name), c.x)
	}
}
