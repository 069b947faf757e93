package tests

import (
	"fmt"
	"slices"
	"strings"
	"testing"

	"loop.example/g00133/impl"
)

// longestRow is how many a row may be asked for.
const longestRow = 64

// coinArgs hold what any draw is given; each takes what it needs.
type coinArgs struct {
	words       []int
	at, p, b, n int
}

// coinAnswer is what any draw answers.
type coinAnswer struct {
	numbers []int
	number  int
	next    int
	ok      bool
}

func (a coinAnswer) same(other coinAnswer) bool {
	return slices.Equal(a.numbers, other.numbers) && a.number == other.number && a.next == other.next && a.ok == other.ok
}

func drawnOne(number int, next int, ok bool) coinAnswer {
	return coinAnswer{number: number, next: next, ok: ok}
}

func drawnRow(numbers []int, next int, ok bool) coinAnswer {
	return coinAnswer{numbers: numbers, next: next, ok: ok}
}

// ofCoin is a function of the chapter, what the document asks of it, by other means, and when its arguments are as said.
type ofCoin struct {
	name   string
	call   func(x coinArgs) coinAnswer
	want   func(x coinArgs) coinAnswer
	asSaid func(x coinArgs) bool
}

// coinFunctions has the draws of one in its first half, and the row of each in its second one.
func coinFunctions() []ofCoin {
	return []ofCoin{
		{"UniformFrom", func(x coinArgs) coinAnswer { return drawnOne(impl.UniformFrom(x.words, x.at, x.p)) }, wantUniform, isForUniform},
		{"TernaryFrom", func(x coinArgs) coinAnswer { return drawnOne(impl.TernaryFrom(x.words, x.at)) }, wantTernary, isForDraw},
		{"NoiseFrom", func(x coinArgs) coinAnswer { return drawnOne(impl.NoiseFrom(x.words, x.at, x.b)) }, wantNoise, isForNoise},
		{"UniformRow", func(x coinArgs) coinAnswer { return drawnRow(impl.UniformRow(x.words, x.at, x.p, x.n)) }, wantRow(wantUniform), isForRow(isForUniform)},
		{"TernaryRow", func(x coinArgs) coinAnswer { return drawnRow(impl.TernaryRow(x.words, x.at, x.n)) }, wantRow(wantTernary), isForRow(isForDraw)},
		{"NoiseRow", func(x coinArgs) coinAnswer { return drawnRow(impl.NoiseRow(x.words, x.at, x.b, x.n)) }, wantRow(wantNoise), isForRow(isForNoise)},
	}
}

func coinFunction(name string) ofCoin {
	for _, f := range coinFunctions() {
		if f.name == name {
			return f
		}
	}
	panic(name)
}

func isForDraw(x coinArgs) bool {
	for _, word := range x.words {
		if uint64(word)>>32 != 0 {
			return false
		}
	}
	return len(x.words) <= 4000 && 0 <= x.at && x.at <= len(x.words)
}

func isForUniform(x coinArgs) bool {
	return isForDraw(x) && isModulus(x.p)
}

func isForNoise(x coinArgs) bool {
	return isForDraw(x) && 1 <= x.b && x.b <= 16
}

func isForRow(one func(x coinArgs) bool) func(x coinArgs) bool {
	return func(x coinArgs) bool {
		return one(x) && 0 <= x.n && x.n <= longestRow
	}
}

// lastMultiple is the greatest multiple of p that is at most 2^32.
func lastMultiple(p int) int {
	return twoTo32 / p * p
}

func wantUniform(x coinArgs) coinAnswer {
	passed := slices.IndexFunc(x.words[x.at:], func(word int) bool { return word < lastMultiple(x.p) })
	if passed < 0 {
		return coinAnswer{}
	}
	place := x.at + passed
	return drawnOne(bigMod(x.words[place], x.p), place+1, true)
}

func wantTernary(x coinArgs) coinAnswer {
	x.p = 3
	want := wantUniform(x)
	want.number = []int{0, 1, -1}[want.number]
	return want
}

// wantNoise counts the ones in the word's digits to the base 2.
func wantNoise(x coinArgs) coinAnswer {
	if x.at == len(x.words) {
		return coinAnswer{}
	}
	digits := fmt.Sprintf("%032b", x.words[x.at])
	lowest, next := digits[32-x.b:], digits[32-2*x.b:32-x.b]
	return drawnOne(strings.Count(lowest, "1")-strings.Count(next, "1"), x.at+1, true)
}

// wantRow is n draws, one behind the other.
func wantRow(one func(x coinArgs) coinAnswer) func(x coinArgs) coinAnswer {
	return func(x coinArgs) coinAnswer {
		want := coinAnswer{next: x.at, ok: true}
		for range x.n {
			x.at = want.next
			drawn := one(x)
			if !drawn.ok {
				return coinAnswer{}
			}
			want.numbers, want.next = append(want.numbers, drawn.number), drawn.next
		}
		return want
	}
}

// wanted is the zero answer where an argument is not as said.
func (f ofCoin) wanted(x coinArgs) coinAnswer {
	if !f.asSaid(x) {
		return coinAnswer{}
	}
	return f.want(x)
}

// checkCoin holds one call against the second reckoning, and looks after the memory of the words and of the answer.
func checkCoin(t *testing.T, f ofCoin, x coinArgs) coinAnswer {
	t.Helper()
	want := f.wanted(x)
	call := fmt.Sprintf("%s of %d words, at %d, p %d, b %d, n %d, first %v", f.name, len(x.words), x.at, x.p, x.b, x.n, x.words[:min(20, len(x.words))])
	checkMemory(t, call, [][]int{x.words}, func(laid [][]int) [][]int {
		y := x
		y.words = laid[0]
		got := f.call(y)
		if !got.same(want) {
			t.Errorf("%s = %v, want %v", call, got, want)
		}
		return [][]int{got.numbers}
	})
	return want
}

// checkAllCoins asks every function of the chapter.
func checkAllCoins(t *testing.T, x coinArgs) {
	t.Helper()
	for _, f := range coinFunctions() {
		checkCoin(t, f, x)
	}
}

// coinModuli are the least, powers of two and what lies beside them, and some near the greatest; most are no primes.
func coinModuli() []int {
	moduli := []int{3, 5, 6, 7, 11, 12, 97, 641, 12289, 6700417, 100000007, 268435367, lastPrime, impl.MaxPrime - 2, impl.MaxPrime - 1}
	for p := 2; p <= impl.MaxPrime; p *= 2 {
		moduli = append(moduli, p, max(2, p-1), p/2*3)
	}
	return slices.DeleteFunc(moduli, func(p int) bool { return !isModulus(p) })
}

// passedBy are words that are passed over by p: the least, the greatest and one between; none where p divides 2^32.
func passedBy(p int) []int {
	multiple := lastMultiple(p)
	if multiple == twoTo32 {
		return nil
	}
	return []int{multiple, (multiple + twoTo32 - 1) / 2, twoTo32 - 1}
}

// edgeWords are the least, the greatest, and those at and beside the last multiple of p.
func edgeWords(p int) []int {
	multiple := lastMultiple(p)
	return append(passedBy(p), 0, 1, p-1, p, p+1, multiple-p, multiple-2, multiple-1, twoTo32-2, twoTo32-1, 1<<31, 1<<31-1, 0xffff, 0xffff0000)
}

// wordsFor are drawn so that many are passed over by p.
func (d *dice) wordsFor(p int, count int) []int {
	words := make([]int, count)
	edges := edgeWords(p)
	for i := range words {
		words[i] = int(d.next() >> 32)
		if d.below(2) == 0 {
			words[i] = edges[d.below(len(edges))]
		}
	}
	return words
}

func (d *dice) modulus() int {
	moduli := coinModuli()
	if d.below(2) == 0 {
		return 2 + d.below(impl.MaxPrime-1)
	}
	return moduli[d.below(len(moduli))]
}
