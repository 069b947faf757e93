package tests

import (
	"fmt"
	"math"
	"math/big"
	"slices"
	"testing"

	"loop.example/g00133/impl"
)

// slotArgs hold what any function of slots is given; each takes what it needs.
type slotArgs struct {
	n, t, k, g int
	list       []int
}

// slotAnswer is what any function of slots answers.
type slotAnswer struct {
	numbers []int
	number  int
	ok      bool
}

func (a slotAnswer) same(other slotAnswer) bool {
	return slices.Equal(a.numbers, other.numbers) && a.number == other.number && a.ok == other.ok
}

func slotList(numbers []int, ok bool) slotAnswer {
	return slotAnswer{numbers: numbers, ok: ok}
}

func slotTurn(g int, ok bool) slotAnswer {
	return slotAnswer{number: g, ok: ok}
}

// ofSlot is a function of the chapter, what the document asks of it, by other means, and when its arguments are as said.
type ofSlot struct {
	name   string
	call   func(x slotArgs) slotAnswer
	want   func(x slotArgs) slotAnswer
	asSaid func(x slotArgs) bool
}

func slotFunctions() []ofSlot {
	return []ofSlot{
		{"MaySlot", func(x slotArgs) slotAnswer { return slotAnswer{ok: impl.MaySlot(x.n, x.t)} }, func(x slotArgs) slotAnswer { return slotAnswer{ok: true} }, mayHaveSlots},
		{"SlotPoints", func(x slotArgs) slotAnswer { return slotList(impl.SlotPoints(x.n)) }, wantSlotPoints, hasRingSize},
		{"EncodeSlots", func(x slotArgs) slotAnswer { return slotList(impl.EncodeSlots(x.n, x.t, x.list)) }, wantEncode, areSlots},
		{"DecodeSlots", func(x slotArgs) slotAnswer { return slotList(impl.DecodeSlots(x.n, x.t, x.list)) }, wantDecode, areSlots},
		{"TurnOfRows", func(x slotArgs) slotAnswer { return slotTurn(impl.TurnOfRows(x.n, x.k)) }, wantTurnOfRows, mayMoveRows},
		{"TurnOfSwap", func(x slotArgs) slotAnswer { return slotTurn(impl.TurnOfSwap(x.n)) }, wantTurnOfSwap, hasRingSize},
		{"MovedSlots", func(x slotArgs) slotAnswer { return slotList(impl.MovedSlots(x.n, x.list, x.g)) }, wantMoved, mayBeMoved},
	}
}

func slotFunction(name string) ofSlot {
	for _, f := range slotFunctions() {
		if f.name == name {
			return f
		}
	}
	panic(name)
}

func hasRingSize(x slotArgs) bool {
	return x.n == 2 || x.n == 4 || x.n == 8 || x.n == 16
}

func mayHaveSlots(x slotArgs) bool {
	return hasRingSize(x) && isPrimeModulus(x.t) && bigMod(x.t, 2*x.n) == 1
}

func areSlots(x slotArgs) bool {
	return mayHaveSlots(x) && arePlain(x.list, x.n, x.t)
}

func mayMoveRows(x slotArgs) bool {
	return hasRingSize(x) && 0 <= x.k && 2*uint64(x.k) < uint64(x.n)
}

func mayBeMoved(x slotArgs) bool {
	return hasRingSize(x) && len(x.list) == x.n && isTurn(x.g, x.n)
}

// exponentOf is that of a slot's point, in the document's words.
func exponentOf(n int, slot int) int {
	power := intOf(new(big.Int).Exp(bigOf(3), bigOf(slot%(n/2)), bigOf(2*n)))
	if slot < n/2 {
		return power
	}
	return 2*n - power
}

func wantSlotPoints(x slotArgs) slotAnswer {
	points := make([]int, x.n)
	for slot := range points {
		points[slot] = exponentOf(x.n, slot)
	}
	return slotList(points, true)
}

// pointsOfSlots are the points themselves.
func pointsOfSlots(x slotArgs) []int {
	ring, _ := wantRing(x.t, x.n)
	points := make([]int, x.n)
	for slot := range points {
		points[slot] = wantPow(ring.Root, exponentOf(x.n, slot), x.t)
	}
	return points
}

// wantDecode adds up the powers of each point one by one, as great numbers.
func wantDecode(x slotArgs) slotAnswer {
	slots := make([]int, x.n)
	for slot, point := range pointsOfSlots(x) {
		sum, power := new(big.Int), bigOf(1)
		for _, number := range x.list {
			sum.Add(sum, new(big.Int).Mul(power, bigOf(number)))
			power.Mul(power, bigOf(point))
		}
		slots[slot] = intOf(sum.Mod(sum, bigOf(x.t)))
	}
	return slotList(slots, true)
}

// wantEncode goes through the points in turn: it adds what is lacking there times the polynomial that is 0 at all points that have been.
func wantEncode(x slotArgs) slotAnswer {
	m, noughtAtAll := make([]int, x.n), append([]int{1}, make([]int, x.n)...)
	for slot, point := range pointsOfSlots(x) {
		lacking := bigMod(x.list[slot]-plainAt(m, point, x.t), x.t)
		times := lacking * wantInv(plainAt(noughtAtAll, point, x.t), x.t) % x.t
		for i := range m {
			m[i] = (m[i] + times*noughtAtAll[i]) % x.t
		}
		for i := x.n; i >= 0; i-- {
			below := 0
			if i > 0 {
				below = noughtAtAll[i-1]
			}
			noughtAtAll[i] = bigMod(below-noughtAtAll[i]*point, x.t)
		}
	}
	return slotList(m, true)
}

func plainAt(m []int, point int, t int) int {
	return valueAt(impl.Ring{P: t}, m, point)
}

func wantTurnOfRows(x slotArgs) slotAnswer {
	return slotTurn(exponentOf(x.n, x.k), true)
}

func wantTurnOfSwap(x slotArgs) slotAnswer {
	return slotTurn(2*x.n-1, true)
}

// wantMoved looks among all slots for the one whose exponent it is.
func wantMoved(x slotArgs) slotAnswer {
	moved := make([]int, x.n)
	for slot := range moved {
		for other, number := range x.list {
			if exponentOf(x.n, other) == exponentOf(x.n, slot)*x.g%(2*x.n) {
				moved[slot] = number
			}
		}
	}
	return slotList(moved, true)
}

// wanted is the zero answer where an argument is not as said.
func (f ofSlot) wanted(x slotArgs) slotAnswer {
	if !f.asSaid(x) {
		return slotAnswer{}
	}
	return f.want(x)
}

// checkSlot holds one call against the second reckoning, and looks after the memory of the list and of the answer.
func checkSlot(t *testing.T, f ofSlot, x slotArgs) {
	t.Helper()
	want := f.wanted(x)
	call := fmt.Sprintf("%s of N %d, t %d, k %d, g %d, %v", f.name, x.n, x.t, x.k, x.g, x.list[:min(40, len(x.list))])
	checkMemory(t, call, [][]int{x.list}, func(laid [][]int) [][]int {
		y := x
		y.list = laid[0]
		got := f.call(y)
		if !got.same(want) {
			t.Errorf("%s = %v, want %v", call, got, want)
		}
		return [][]int{got.numbers}
	})
}

// checkAllOfSlots asks every function of the chapter.
func checkAllOfSlots(t *testing.T, x slotArgs) {
	t.Helper()
	for _, f := range slotFunctions() {
		checkSlot(t, f, x)
	}
}

// askSlots makes a call of the program that must be told true, with N numbers.
func askSlots(t *testing.T, name string, x slotArgs) []int {
	t.Helper()
	got := slotFunction(name).call(x)
	if !got.ok || len(got.numbers) != x.n {
		t.Fatalf("%s of %+v = %v", name, x, got)
	}
	return got.numbers
}

// askTurn makes a call of the program that must be told true, with a turn.
func askTurn(t *testing.T, name string, n int, k int) int {
	t.Helper()
	got := slotFunction(name).call(slotArgs{n: n, k: k})
	if !got.ok || !isTurn(got.number, n) {
		t.Fatalf("%s of N %d and k %d = %v", name, n, k, got)
	}
	return got.number
}

// inSlots are the slots of a plain of the ring, by the program.
func inSlots(t *testing.T, r impl.Ring, m []int) []int {
	t.Helper()
	return askSlots(t, "DecodeSlots", slotArgs{n: r.N, t: r.P, list: m})
}

// ofSlots is the plain that has these slots, by the program.
func ofSlots(t *testing.T, r impl.Ring, slots []int) []int {
	t.Helper()
	return askSlots(t, "EncodeSlots", slotArgs{n: r.N, t: r.P, list: slots})
}

// rowsMoved: slot j gets what slot j + k of its row had, going round, in the document's words.
func rowsMoved(slots []int, k int) []int {
	half := len(slots) / 2
	moved := make([]int, len(slots))
	for j := range half {
		from := (j + k) % half
		moved[j], moved[half+j] = slots[from], slots[half+from]
	}
	return moved
}

func rowsSwapped(slots []int) []int {
	half := len(slots) / 2
	swapped := make([]int, len(slots))
	for j := range half {
		swapped[j], swapped[half+j] = slots[half+j], slots[j]
	}
	return swapped
}

// anyInts are numbers that are no slots of a plain: below 0, and at the edges of int.
func anyInts(n int) []int {
	all := []int{math.MinInt, math.MaxInt, -1, 0, 1, math.MinInt + 1, math.MaxInt - 1, -97, 97, 1 << 62, -1 << 62, 5, -5, twoTo32, -twoTo32, 7}
	return all[:n]
}

// wrongSlotSizes are no N, some of them near to one, or one to a word of fewer bits.
func wrongSlotSizes() []int {
	sizes := []int{-16, -8, -4, -2, 1 << 33, 1<<32 + 2, 1<<32 + 16, 1 << 62, math.MinInt / 2, math.MinInt + 2, math.MinInt + 16}
	for _, n := range edgeInts {
		if !hasRingSize(slotArgs{n: n}) {
			sizes = append(sizes, n)
		}
	}
	for n := range 130 {
		if !hasRingSize(slotArgs{n: n}) {
			sizes = append(sizes, n)
		}
	}
	return sizes
}

// wrongTs: beside a t of this N no modulus, no prime, and primes whose t - 1 is not divided by 2 N, though it may be by N.
func wrongTs(n int) []int {
	all := []int{n, n + 1, 2 * n, 2*n - 1, 3*n + 1, 4*n - 1, primeFor(n, impl.MaxPrime+1, 1), -primeFor(n, 2*n+1, 1), 1<<32 + 97, 1<<62 + 1}
	all = append(all, 9, 25, 33, 49, 65, 161, 225, 289, 385, 561, 1105, 1729, 6601, 294409, lastPrime, 2, 3, 7, 11, 19, 23, 31, 47, 79)
	all = append(all, edgeInts...)
	for t := range 200 {
		all = append(all, t)
	}
	return slices.DeleteFunc(all, func(t int) bool { return mayHaveSlots(slotArgs{n: n, t: t}) })
}
