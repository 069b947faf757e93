package tests

import (
	"math"
	"slices"
	"testing"

	"loop.example/g00133/impl"
)

// Promise 14: every function of the chapter, at every edge and at wrong inputs, in every place.

// goodSlots are arguments at which each function of the chapter is told true.
func goodSlots(r impl.Ring) slotArgs {
	return slotArgs{n: r.N, t: r.P, k: r.N/2 - 1, g: 2*r.N - 1, list: slices.Repeat([]int{r.P - 1}, r.N)}
}

// isZeroOfSlots asks one function at arguments that are not as said.
func isZeroOfSlots(t *testing.T, f ofSlot, x slotArgs) {
	t.Helper()
	mustAnswer(t, f.name, func() {
		if got := f.call(x); len(got.numbers) != 0 || got.number != 0 || got.ok {
			t.Errorf("%s of %+v = %v", f.name, x, got)
		}
	})
}

func TestGoodSlotsAreToldTrue(t *testing.T) {
	for _, r := range goodRings(t) {
		for _, f := range slotFunctions() {
			if got := f.call(goodSlots(r)); !got.ok {
				t.Errorf("%s of %+v = %v", f.name, goodSlots(r), got)
			}
			checkSlot(t, f, goodSlots(r))
		}
	}
}

// No function takes another N, whatever the list's length is.
func TestWrongSizesOfSlots(t *testing.T) {
	for _, n := range wrongSlotSizes() {
		for _, p := range []int{5, 17, 97, 193, 257, 786433, lastPrime} {
			for _, length := range []int{0, 1, 2, 3, 4, 16, 17, max(0, min(n, 130))} {
				for _, k := range []int{0, 1} {
					x := slotArgs{n: n, t: p, k: k, g: 1, list: make([]int, length)}
					for _, f := range slotFunctions() {
						isZeroOfSlots(t, f, x)
						checkSlot(t, f, x)
					}
				}
			}
		}
	}
}

func TestWrongModuliOfSlots(t *testing.T) {
	for _, n := range ringSizes {
		for _, p := range wrongTs(n) {
			for _, list := range [][]int{make([]int, n), slices.Repeat([]int{1}, n), nil} {
				x := slotArgs{n: n, t: p, g: 1, list: list}
				for _, name := range []string{"MaySlot", "EncodeSlots", "DecodeSlots"} {
					isZeroOfSlots(t, slotFunction(name), x)
					checkSlot(t, slotFunction(name), x)
				}
			}
		}
	}
}

func TestMaySlotAnswersAtAnyArgument(t *testing.T) {
	numbers := slices.Concat(edgeInts, wrongSlotSizes(), wrongTs(2))
	for _, n := range numbers {
		for _, p := range numbers {
			checkSlot(t, slotFunction("MaySlot"), slotArgs{n: n, t: p})
		}
	}
}

func TestWrongListsOfSlots(t *testing.T) {
	for _, r := range goodRings(t) {
		for _, wrong := range wrongLists(r) {
			x := goodSlots(r)
			x.list = wrong
			for _, name := range []string{"EncodeSlots", "DecodeSlots"} {
				isZeroOfSlots(t, slotFunction(name), x)
				checkSlot(t, slotFunction(name), x)
			}
		}
		for i := range r.N {
			for _, number := range edgeInts {
				x := goodSlots(r)
				x.list = make([]int, r.N)
				x.list[i] = number
				checkAllOfSlots(t, x)
			}
		}
	}
}

// Slots of any ints are moved; only their count is asked for.
func TestMovedSlotsOfAnyLists(t *testing.T) {
	for _, n := range ringSizes {
		for length := range 70 {
			for g := 1; g < 2*n; g += 2 {
				x := slotArgs{n: n, g: g, list: slices.Repeat([]int{math.MinInt, 3, math.MaxInt}, 30)[:length]}
				got := slotFunction("MovedSlots").call(x)
				if got.ok != (length == n) || len(got.numbers) != length && got.ok {
					t.Errorf("MovedSlots of N %d, g %d, %d slots = %v", n, g, length, got)
				}
				checkSlot(t, slotFunction("MovedSlots"), x)
			}
		}
		for g := 1; g < 2*n; g += 2 {
			isZeroOfSlots(t, slotFunction("MovedSlots"), slotArgs{n: n, g: g})
			checkSlot(t, slotFunction("MovedSlots"), slotArgs{n: n, g: g, list: anyInts(n)})
		}
	}
}

func TestMovedSlotsByAnyTurn(t *testing.T) {
	for _, n := range ringSizes {
		gs := append([]int{2*n - 1 + math.MinInt, math.MinInt + 1, 1<<32 + 1, 1<<32 + 2*n - 1, 1<<62 + 1}, edgeInts...)
		for g := -5 * n; g < 5*n; g++ {
			gs = append(gs, g)
		}
		for _, g := range gs {
			x := slotArgs{n: n, g: g, list: anyInts(n)}
			if !isTurn(g, n) {
				isZeroOfSlots(t, slotFunction("MovedSlots"), x)
			}
			checkSlot(t, slotFunction("MovedSlots"), x)
		}
	}
}

func TestTurnOfRowsAtAnyArgument(t *testing.T) {
	ks := append([]int{1 << 32, 1<<32 + 1, 1 << 62, 1 << 61, math.MinInt / 2}, edgeInts...)
	for k := -40; k < 70; k++ {
		ks = append(ks, k)
	}
	for _, n := range slices.Concat(ringSizes, wrongSlotSizes()) {
		for _, k := range ks {
			x := slotArgs{n: n, k: k}
			if !slices.Contains(ringSizes, n) || k < 0 || k >= n/2 {
				isZeroOfSlots(t, slotFunction("TurnOfRows"), x)
			}
			checkSlot(t, slotFunction("TurnOfRows"), x)
		}
	}
}

// All numbers at once at their edges, beside lists of every kind.
func TestSlotsAtAnyNumbers(t *testing.T) {
	few := []int{math.MinInt, -1, 0, 1, 2, 3, 4, 8, 16, 17, 32, 97, impl.MaxPrime, math.MaxInt}
	lists := [][]int{nil, {}, {0, 1}, {96, 0, 1, 2}, slices.Repeat([]int{1}, 16), anyInts(16)}
	for _, n := range few {
		for _, p := range few {
			for i, by := range few {
				for _, list := range lists {
					checkAllOfSlots(t, slotArgs{n: n, t: p, k: by, g: few[(i+5)%len(few)], list: list})
				}
			}
		}
	}
}

// What lies behind the list in its memory is not taken for more of it.
func TestSlotsBehindTheLengthAreNotTaken(t *testing.T) {
	for _, r := range goodRings(t) {
		memory := slices.Repeat([]int{1}, 3*r.N)
		for _, length := range []int{0, 1, r.N - 1, r.N, r.N + 1} {
			x := goodSlots(r)
			x.list = memory[:length]
			y := x
			y.list = slices.Clone(x.list)
			for _, f := range slotFunctions() {
				if got, want := f.call(x), f.call(y); !got.same(want) || !got.same(f.wanted(x)) {
					t.Errorf("%s of %d numbers = %v, without more memory %v", f.name, length, got, want)
				}
			}
		}
	}
}

// What one call tells is not what another one has told before, and no call changes what the next one tells.
func TestAnswersOfSlotsAreNewMemory(t *testing.T) {
	for _, r := range goodRings(t) {
		for _, g := range []int{1, 3, 2*r.N - 1} {
			x := goodSlots(r)
			x.g = g
			before := slices.Clone(x.list)
			for _, f := range slotFunctions() {
				one, two := f.call(x), f.call(x)
				if !one.same(two) || !apart([][]int{one.numbers, two.numbers, x.list}) {
					t.Errorf("%s of %+v tells the same memory twice", f.name, x)
				}
				scribble([][]int{one.numbers, two.numbers}, -77)
				if again := f.call(x); !again.same(f.want(x)) || !slices.Equal(x.list, before) {
					t.Errorf("%s of %+v = %v", f.name, x, again)
				}
			}
		}
	}
}
