package tests

import (
	"math"
	"slices"
	"testing"

	"loop.example/g00133/impl"
)

// Promise 14: every function of the chapter, at every edge and at wrong inputs, in every place.

func TestRingOfAnswersAtAnyArgument(t *testing.T) {
	primes := append(slices.Clone(edgeInts), 786433, 9, 25, 33, 49, 65, 561, 1729, 2465, 294409)
	for _, n := range ringSizes {
		// the last of these is a prime that fits, but no modulus
		primes = append(primes, primeFor(n, 2*n+1, 1), primeFor(n, impl.MaxPrime-2*n+1, -1), primeFor(n, impl.MaxPrime+1, 1))
	}
	for _, p := range primes {
		for n := range 70 {
			checkRingOf(t, p, n)
		}
		for _, n := range append([]int{-2, -4, -16, 1 << 32, 1 << 62, math.MinInt / 2}, edgeInts...) {
			checkRingOf(t, p, n)
		}
	}
}

func TestBitBackAnswersAtAnyArgument(t *testing.T) {
	numbers := append([]int{10, 11, 1022, 1023, 1024, 1025, 2047, 2048}, edgeInts...)
	for _, k := range numbers {
		for _, bits := range numbers {
			mustAnswer(t, "BitBack", func() {
				if n := impl.BitBack(k, bits); n != wantBack(k, bits) {
					t.Errorf("BitBack(%d, %d) = %d, want %d", k, bits, n, wantBack(k, bits))
				}
			})
		}
	}
	for bits := range 11 {
		for _, k := range []int{-1, 1 << bits, 1<<bits + 1, 2 << bits} {
			if n := impl.BitBack(k, bits); n != 0 {
				t.Errorf("BitBack(%d, %d) = %d", k, bits, n)
			}
		}
	}
	for _, bits := range []int{-1, 11, 12, 62, 63, 64, 65} {
		if n := impl.BitBack(1, bits); n != 0 {
			t.Errorf("BitBack(1, %d) = %d", bits, n)
		}
	}
}

func TestWrongRings(t *testing.T) {
	for _, good := range goodRings(t) {
		for _, r := range wrongRings(good) {
			for _, f := range ringFunctions {
				checkRing(t, f, ringArgs{ring: r, a: slices.Repeat([]int{1}, good.N), b: slices.Repeat([]int{1}, good.N), g: 1})
				// lists that are as long as the wrong ring asks for
				if r.N >= 0 && r.N <= 64 {
					checkRing(t, f, ringArgs{ring: r, a: make([]int, r.N), b: make([]int, r.N), g: 1})
				}
			}
		}
	}
}

// A root of the right order that is not the least makes no good ring, and neither does a ring of none at all.
func TestOtherRootsAreRefused(t *testing.T) {
	for root := -20; root < 40; root++ {
		_, ok := impl.Forward(impl.Ring{P: 17, N: 4, Root: root}, make([]int, 4))
		if ok != (root == 2) {
			t.Errorf("Root %d: %v", root, ok)
		}
	}
	for _, f := range ringFunctions {
		checkRing(t, f, ringArgs{})
		checkRing(t, f, ringArgs{g: 1})
	}
}

func TestWrongPolynomials(t *testing.T) {
	for _, r := range goodRings(t) {
		good := slices.Repeat([]int{r.P - 1}, r.N)
		for _, wrong := range wrongLists(r) {
			for _, f := range ringFunctions {
				checkRing(t, f, ringArgs{ring: r, a: wrong, b: good, g: 1})
				checkRing(t, f, ringArgs{ring: r, a: good, b: wrong, g: 1})
				checkRing(t, f, ringArgs{ring: r, a: wrong, b: wrong, g: 1})
			}
		}
	}
}

func TestWrongTurns(t *testing.T) {
	for _, r := range goodRings(t) {
		for g := -3; g < 4*r.N; g++ {
			checkTurn(t, r, g)
		}
		for _, g := range edgeInts {
			checkTurn(t, r, g)
		}
	}
}

func checkTurn(t *testing.T, r impl.Ring, g int) {
	t.Helper()
	for _, f := range ringFunctions {
		if f.turn {
			checkRing(t, f, ringArgs{ring: r, a: slices.Repeat([]int{1}, r.N), g: g})
		}
	}
}

func TestTurnTableAnswersAtAnyArgument(t *testing.T) {
	numbers := slices.Clone(edgeInts)
	for n := range 70 {
		numbers = append(numbers, n)
	}
	for _, n := range append([]int{-2, -16, 1 << 32, 1 << 62, math.MinInt / 2}, numbers...) {
		for _, g := range numbers {
			mustAnswer(t, "TurnTable", func() {
				got, told := impl.TurnTable(n, g)
				want, ok := wantTurnTable(n, g)
				if told != ok || !slices.Equal(got, want) {
					t.Errorf("TurnTable(%d, %d) = %v, %v, want %v, %v", n, g, got, told, want, ok)
				}
			})
		}
	}
}

// What one call tells is not what another one has told before.
func TestTablesAreNewMemory(t *testing.T) {
	for _, n := range ringSizes {
		one, _ := impl.TurnTable(n, 1)
		two, _ := impl.TurnTable(n, 1)
		if !apart([][]int{one, two}) {
			t.Errorf("TurnTable(%d, 1) tells the same memory twice", n)
		}
		scribble([][]int{one, two}, -77)
		if table, ok := impl.TurnTable(n, 1); !ok || table[n-1] != n-1 {
			t.Errorf("TurnTable(%d, 1) = %v, %v", n, table, ok)
		}
	}
}

// One list in two places, and two lists that lie in one another, are only read.
func TestListsThatOverlap(t *testing.T) {
	for _, r := range goodRings(t) {
		d := dice(9)
		memory := append(d.polynomial(r), d.polynomial(r)...)
		before := slices.Clone(memory)
		a, b := memory[:r.N], memory[1:r.N+1]
		for _, f := range ringFunctions {
			for _, second := range [][]int{a, b} {
				x := ringArgs{ring: r, a: a, b: second, g: 2*r.N - 1}
				got := ask(t, f.name, x)
				if !slices.Equal(got, f.want(x)) {
					t.Errorf("%s of %+v = %v", f.name, x, got)
				}
				scribble([][]int{got}, -77)
				if !slices.Equal(memory, before) {
					t.Fatalf("%s of %v changes its lists", f.name, r)
				}
			}
		}
	}
}
