package tests

import (
	"math"
	"slices"
	"strings"
	"testing"

	"loop.example/g00133/impl"
)

// Promise 14: every function of the chapter, at every edge and at wrong inputs, in every place.

func TestFunctionsOfTwoWholesAnswerAtAnyArgument(t *testing.T) {
	all := append(edgeWholes(), wrongWholes()...)
	for _, f := range functionsOfTwo() {
		for _, a := range all {
			for _, b := range all {
				checkTwo(t, f, a, b)
			}
		}
	}
}

func TestFunctionsOfOneWholeAnswerAtAnyArgument(t *testing.T) {
	for _, a := range append(edgeWholes(), wrongWholes()...) {
		for _, f := range functionsOfOne() {
			checkOne(t, f, a)
		}
		for _, m := range edgeInts {
			checkModWord(t, a, m)
		}
	}
}

// Lists without memory of their own behind them: nil, empty, and as long as they are.
func TestWholesAsTheyAre(t *testing.T) {
	zeros := []impl.Whole{{}, {Limbs: []int{}}, {Limbs: make([]int, 0, 5)}}
	for _, zero := range zeros {
		sum, ok := impl.AddWholes(zero, zero)
		if !impl.GoodWhole(zero) || !ok || !sameWhole(sum, impl.Whole{}) || impl.WholeText(zero) != "0" {
			t.Errorf("%#v", zero)
		}
		if _, _, ok := impl.DivWholes(impl.WholeOf(5), zero); ok {
			t.Errorf("5 / %#v", zero)
		}
		if _, ok := impl.RoundWholes(impl.WholeOf(5), zero); ok {
			t.Errorf("5 / %#v", zero)
		}
		zero.Neg = true
		if impl.GoodWhole(zero) || impl.WholeText(zero) != "" {
			t.Errorf("%#v", zero)
		}
	}
}

// The same list in both places, and answers that are the argument's own number, must be new memory all the same.
func TestAnswersAreNewMemory(t *testing.T) {
	for _, a := range edgeWholes() {
		before := slices.Clone(a.Limbs)
		sum, _ := impl.AddWholes(a, impl.Whole{})
		other, _ := impl.AddWholes(impl.Whole{}, a)
		product, _ := impl.MulWholes(a, impl.WholeOf(1))
		quotient, _, _ := impl.DivWholes(a, impl.WholeOf(1))
		_, rest, _ := impl.DivWholes(a, wholeFrom(greatest()))
		nearest, _ := impl.RoundWholes(a, impl.WholeOf(1))
		self, left, _ := impl.DivWholes(a, a)
		answers := limbLists([]impl.Whole{sum, other, product, quotient, rest, nearest, self, left})
		if !apart(answers) {
			t.Errorf("answers of %v share memory", a)
		}
		scribble(answers, -77)
		if !slices.Equal(a.Limbs, before) {
			t.Errorf("an answer shares memory with %v", a)
		}
	}
}

func TestDivisorsThatMayNotBe(t *testing.T) {
	for _, b := range []impl.Whole{{}, impl.WholeOf(-1), impl.WholeOf(-7), impl.WholeOf(math.MinInt), opposite(wholeFrom(greatest()))} {
		for _, a := range []impl.Whole{{}, impl.WholeOf(1), impl.WholeOf(-1), wholeFrom(greatest())} {
			q, r, ok := impl.DivWholes(a, b)
			if ok || !sameWhole(q, impl.Whole{}) || !sameWhole(r, impl.Whole{}) {
				t.Errorf("DivWholes(%v, %v) = %v, %v, %v", a, b, q, r, ok)
			}
			if x, ok := impl.RoundWholes(a, b); ok || !sameWhole(x, impl.Whole{}) {
				t.Errorf("RoundWholes(%v, %v) = %v, %v", a, b, x, ok)
			}
		}
	}
}

func TestModuliOfAWhole(t *testing.T) {
	cases := []struct{ n, m, want int }{
		{-1, 2, 1}, {-2, 2, 0}, {7, 2, 1}, {-1, impl.MaxPrime, impl.MaxPrime - 1}, {impl.MaxPrime, impl.MaxPrime, 0}, {math.MinInt, impl.MaxPrime, 0},
		{math.MinInt, 3, 1}, {math.MaxInt, 3, 1}, {0, 5, 0}, {5, 1, 0}, {5, 0, 0}, {5, -3, 0}, {5, impl.MaxPrime + 1, 0}, {5, math.MinInt, 0}, {5, math.MaxInt, 0},
	}
	for _, c := range cases {
		if n := impl.ModWord(impl.WholeOf(c.n), c.m); n != c.want {
			t.Errorf("ModWord of %d and %d = %d, want %d", c.n, c.m, n, c.want)
		}
	}
}

func TestTextsThatAreNoNumbers(t *testing.T) {
	texts := []string{
		"", "-", "+", "--1", "+1", "+0", "-+1", "-0", "00", "-00", "01", "-01", "007", "000000000", "1-", "1+", " 1", "1 ", "1 2", "\n1", "1\n", "1\x00", "\x00",
		"1_000", "1,000", "1.0", "1e3", "0x10", "0b1", "a", "12a4", "/", ":", "1/", "1:", "\xff", "1\xff", "٣", "１", "−1", "-a", "- 1", "12345678901234567890x", "0-", "00000001",
		strings.Repeat("9", 339), "-" + strings.Repeat("9", 339), "1" + strings.Repeat("0", 338), strings.Repeat("1", 1000000), strings.Repeat("0", 1000000), "0" + greatest().String(),
		strings.Repeat("1", 300) + "x", "1" + strings.Repeat("0", 1000) + "x",
	}
	for _, text := range texts {
		mustAnswer(t, "ReadWhole", func() {
			if a, ok := impl.ReadWhole(text); ok || !sameWhole(a, impl.Whole{}) {
				t.Errorf("ReadWhole(%.40q) = %v, %v", text, a, ok)
			}
		})
	}
	for letter := range 256 {
		text := "1" + string([]byte{byte(letter)}) + "1"
		_, ok := impl.ReadWhole(text)
		if want := letter >= '0' && letter <= '9'; ok != want {
			t.Errorf("ReadWhole(%q): %v", text, ok)
		}
	}
}
