package tests

import (
	"slices"
	"testing"

	"loop.example/g00133/impl"
)

// Promise 10: slots come back; products go slot by slot, turns move rows.

// slotLists are all edges of a ring's lists, and some as they come.
func slotLists(r impl.Ring, d *dice, count int) [][]int {
	lists := edgePolynomials(r)
	for range count {
		lists = append(lists, d.polynomial(r))
	}
	return lists
}

// Reckoned by hand.
func TestSlotPointsOfEachSize(t *testing.T) {
	cases := [][]int{{1, 3}, {1, 3, 7, 5}, {1, 3, 9, 11, 15, 13, 7, 5}, {1, 3, 9, 27, 17, 19, 25, 11, 31, 29, 23, 5, 15, 13, 7, 21}}
	for _, want := range cases {
		if points, ok := impl.SlotPoints(len(want)); !ok || !slices.Equal(points, want) {
			t.Errorf("SlotPoints(%d) = %v, %v, want %v", len(want), points, ok, want)
		}
	}
}

// Each odd exponent is that of one slot, and below a slot of the first row is the one whose exponent makes 2 N with it.
func TestSlotPointsAreAllOddExponents(t *testing.T) {
	for _, n := range ringSizes {
		points := askSlots(t, "SlotPoints", slotArgs{n: n})
		for j := range n / 2 {
			if points[j]+points[n/2+j] != 2*n || points[(j+1)%(n/2)] != 3*points[j]%(2*n) && n > 2 {
				t.Errorf("N %d, slot %d: %v", n, j, points)
			}
		}
		slices.Sort(points)
		for i, exponent := range points {
			if exponent != 2*i+1 {
				t.Errorf("N %d: %v", n, points)
			}
		}
	}
}

func TestWhereSlotsMayBe(t *testing.T) {
	primes := sieve(20000)
	for p := range 20000 {
		for _, n := range ringSizes {
			want := primes[p] && (p-1)%(2*n) == 0
			if got := impl.MaySlot(n, p); got != want {
				t.Errorf("MaySlot(%d, %d) = %v", n, p, got)
			}
		}
	}
	// the least of each N, and the greatest
	for _, c := range []struct{ n, t int }{{2, 5}, {4, 17}, {8, 17}, {16, 97}} {
		if !impl.MaySlot(c.n, c.t) {
			t.Errorf("MaySlot(%d, %d) is false", c.n, c.t)
		}
		for p := range c.t {
			if impl.MaySlot(c.n, p) {
				t.Errorf("MaySlot(%d, %d) is true", c.n, p)
			}
		}
		greatest := primeFor(c.n, impl.MaxPrime-2*c.n+1, -1)
		for p := greatest; p <= impl.MaxPrime+4096; p++ {
			if got := impl.MaySlot(c.n, p); got != (p == greatest) {
				t.Errorf("MaySlot(%d, %d) = %v", c.n, p, got)
			}
		}
	}
}

func TestSlotsComeBack(t *testing.T) {
	d := dice(101)
	for _, r := range goodRings(t) {
		for _, a := range slotLists(r, &d, 100) {
			checkSlotsComeBack(t, r, a)
		}
	}
}

func checkSlotsComeBack(t *testing.T, r impl.Ring, a []int) {
	t.Helper()
	if slots := inSlots(t, r, ofSlots(t, r, a)); !slices.Equal(slots, a) {
		t.Errorf("%v: the slots %v come back as %v", r, a, slots)
	}
	if m := ofSlots(t, r, inSlots(t, r, a)); !slices.Equal(m, a) {
		t.Errorf("%v: the plain %v comes back as %v", r, a, m)
	}
}

// All that there are, where these are few.
func TestAllSlotsOfSmallPlains(t *testing.T) {
	for _, c := range []struct{ p, n int }{{5, 2}, {13, 2}, {17, 2}, {17, 4}} {
		r, _ := wantRing(c.p, c.n)
		a := make([]int, r.N)
		for more := true; more; more = nextList(a, r.P) {
			checkSlotsComeBack(t, r, a)
			if r.N == 2 {
				checkAllOfSlots(t, slotArgs{n: r.N, t: r.P, g: 3, list: a})
			}
		}
	}
}

// A slot is the value at Root^(its exponent), Root being the program's own least one, and the exponents those of SlotPoints.
func TestSlotsAreValuesAtTheirPoints(t *testing.T) {
	d := dice(102)
	for _, r := range goodRings(t) {
		root, _ := impl.RootOf(r.P, 2*r.N)
		exponents := askSlots(t, "SlotPoints", slotArgs{n: r.N})
		for _, m := range slotLists(r, &d, 20) {
			slots := inSlots(t, r, m)
			for j, slot := range slots {
				if want := valueAt(r, m, impl.PowMod(root, exponents[j], r.P)); slot != want {
					t.Errorf("%v: slot %d of %v is %d, want %d", r, j, m, slot, want)
				}
			}
		}
	}
}

// X is another number at each point, so its slots are the points themselves; one without X is the same in all slots.
func TestSlotsOfXAndOfNumbers(t *testing.T) {
	for _, r := range goodRings(t) {
		points := inSlots(t, r, append([]int{0, 1}, make([]int, r.N-2)...))
		for j, point := range points {
			opposite := points[(j+r.N/2)%r.N]
			if point*opposite%r.P != 1 || wantPow(point, r.N, r.P) != r.P-1 {
				t.Errorf("%v: the points %v", r, points)
			}
		}
		if points[0] != r.Root {
			t.Errorf("%v: slot 0 of X is %d", r, points[0])
		}
		for _, number := range []int{0, 1, 2, r.P / 2, r.P - 1} {
			alone := append([]int{number}, make([]int, r.N-1)...)
			same := slices.Repeat([]int{number}, r.N)
			if slots, m := inSlots(t, r, alone), ofSlots(t, r, same); !slices.Equal(slots, same) || !slices.Equal(m, alone) {
				t.Errorf("%v: slots of %d alone are %v, and of %v is made %v", r, number, slots, same, m)
			}
		}
	}
}

func TestSlotFunctionsAgreeWithTheSecondReckoning(t *testing.T) {
	d := dice(103)
	for _, r := range goodRings(t) {
		for _, list := range slotLists(r, &d, 10) {
			x := slotArgs{n: r.N, t: r.P, k: d.below(r.N / 2), g: 2*d.below(r.N) + 1, list: list}
			checkAllOfSlots(t, x)
		}
	}
}

// The product is reckoned each with each beside the program, so that it hangs on no transform.
func TestProductsAndSumsGoSlotBySlot(t *testing.T) {
	d := dice(104)
	for _, r := range goodRings(t) {
		lists := slotLists(r, &d, 4)
		for _, a := range lists {
			for _, b := range lists {
				checkSlotBySlot(t, r, a, b)
			}
		}
	}
}

func checkSlotBySlot(t *testing.T, r impl.Ring, a []int, b []int) {
	t.Helper()
	product := wantMulRing(ringArgs{ring: r, a: a, b: b})
	sum, each := make([]int, r.N), make([]int, r.N)
	sums := make([]int, r.N)
	left, right := inSlots(t, r, a), inSlots(t, r, b)
	for i := range r.N {
		sum[i] = (a[i] + b[i]) % r.P
		each[i], sums[i] = left[i]*right[i]%r.P, (left[i]+right[i])%r.P
	}
	if got := inSlots(t, r, product); !slices.Equal(got, each) {
		t.Errorf("%v: slots of %v times %v are %v, one by one %v", r, a, b, got, each)
	}
	if got := inSlots(t, r, sum); !slices.Equal(got, sums) {
		t.Errorf("%v: slots of %v and %v are %v, one by one %v", r, a, b, got, sums)
	}
	if got := ofSlots(t, r, each); !slices.Equal(got, product) {
		t.Errorf("%v: the plain of the products one by one of %v and %v is %v, want %v", r, a, b, got, product)
	}
}

func TestAllProductsOfTheLeastSlots(t *testing.T) {
	r := impl.Ring{P: 5, N: 2, Root: 2}
	both := make([]int, 4)
	for more := true; more; more = nextList(both, r.P) {
		checkSlotBySlot(t, r, both[:2], both[2:])
	}
}

func TestTurnedPlainsHaveMovedSlots(t *testing.T) {
	d := dice(105)
	for _, r := range goodRings(t) {
		// X alone has another value in each slot, so only one way of moving can agree with it
		x := append([]int{0, 1}, make([]int, r.N-2)...)
		for g := 1; g < 2*r.N; g += 2 {
			for _, m := range append(slotLists(r, &d, 3), x) {
				turned := inSlots(t, r, ask(t, "TurnRing", ringArgs{ring: r, a: m, g: g}))
				moved := askSlots(t, "MovedSlots", slotArgs{n: r.N, g: g, list: inSlots(t, r, m)})
				if !slices.Equal(turned, moved) {
					t.Errorf("%v: %v turned by %d has the slots %v, moved %v", r, m, g, turned, moved)
				}
			}
		}
	}
}

// checkTurnedSlots holds a turn against the slots that it should leave: of any ints, and of a plain of each ring.
func checkTurnedSlots(t *testing.T, n int, g int, want func(slots []int) []int) {
	t.Helper()
	d := dice(106)
	for _, slots := range [][]int{anyInts(n), make([]int, n), d.small(n, 1000)} {
		if moved := askSlots(t, "MovedSlots", slotArgs{n: n, g: g, list: slots}); !slices.Equal(moved, want(slots)) {
			t.Errorf("N %d, g %d: %v moved are %v, want %v", n, g, slots, moved, want(slots))
		}
	}
	for _, r := range goodRings(t) {
		if r.N != n {
			continue
		}
		slots := d.polynomial(r)
		turned := wantTurnRing(ringArgs{ring: r, a: ofSlots(t, r, slots), g: g})
		if moved := inSlots(t, r, turned); !slices.Equal(moved, want(slots)) {
			t.Errorf("%v, g %d: %v turned are %v, want %v", r, g, slots, moved, want(slots))
		}
	}
}

func TestTurnOfRowsMovesEachRow(t *testing.T) {
	for _, n := range ringSizes {
		for k := range n / 2 {
			checkTurnedSlots(t, n, askTurn(t, "TurnOfRows", n, k), func(slots []int) []int {
				return rowsMoved(slots, k)
			})
		}
	}
}

func TestTurnOfSwapChangesTheRows(t *testing.T) {
	for _, n := range ringSizes {
		checkTurnedSlots(t, n, askTurn(t, "TurnOfSwap", n, 0), rowsSwapped)
	}
}

// All turns are made of these: by k, or by k and a swap, in either order; no two are the same.
func TestEachTurnIsMadeOfRowsAndSwap(t *testing.T) {
	for _, n := range ringSizes {
		var made []int
		swap := askTurn(t, "TurnOfSwap", n, 0)
		for k := range n / 2 {
			g := askTurn(t, "TurnOfRows", n, k)
			both := g * swap % (2 * n)
			made = append(made, g, both)
			checkTurnedSlots(t, n, both, func(slots []int) []int { return rowsSwapped(rowsMoved(slots, k)) })
			checkTurnedSlots(t, n, both, func(slots []int) []int { return rowsMoved(rowsSwapped(slots), k) })
		}
		slices.Sort(made)
		for i, g := range made {
			if g != 2*i+1 {
				t.Errorf("N %d: the turns %v", n, made)
			}
		}
	}
}

// Two turns one behind the other are the turn of both, and nothing is moved by 1.
func TestTurnsOneBehindTheOther(t *testing.T) {
	for _, n := range ringSizes {
		slots := anyInts(n)
		if same := askSlots(t, "MovedSlots", slotArgs{n: n, g: 1, list: slots}); !slices.Equal(same, slots) {
			t.Errorf("N %d: %v", n, same)
		}
		for g := 1; g < 2*n; g += 2 {
			once := askSlots(t, "MovedSlots", slotArgs{n: n, g: g, list: slots})
			for h := 1; h < 2*n; h += 2 {
				twice := askSlots(t, "MovedSlots", slotArgs{n: n, g: h, list: once})
				both := askSlots(t, "MovedSlots", slotArgs{n: n, g: g * h % (2 * n), list: slots})
				if !slices.Equal(twice, both) {
					t.Errorf("N %d: by %d and %d: %v, by both %v", n, g, h, twice, both)
				}
			}
		}
	}
}

// Reckoned by hand: Root is 2 of 5 and of 17 with N of 4, 5 of 13, and 3 of 17 with N of 8.
func TestNamedSlots(t *testing.T) {
	cases := []struct {
		name string
		x    slotArgs
		want slotAnswer
	}{
		{"DecodeSlots", slotArgs{n: 2, t: 5, list: []int{0, 1}}, slotList([]int{2, 3}, true)},
		{"DecodeSlots", slotArgs{n: 2, t: 5, list: []int{4, 4}}, slotList([]int{2, 1}, true)},
		{"EncodeSlots", slotArgs{n: 2, t: 5, list: []int{1, 0}}, slotList([]int{3, 4}, true)},
		{"EncodeSlots", slotArgs{n: 2, t: 5, list: []int{4, 4}}, slotList([]int{4, 0}, true)},
		{"DecodeSlots", slotArgs{n: 2, t: 13, list: []int{1, 1}}, slotList([]int{6, 9}, true)},
		{"DecodeSlots", slotArgs{n: 4, t: 17, list: []int{0, 1, 0, 0}}, slotList([]int{2, 8, 9, 15}, true)},
		{"DecodeSlots", slotArgs{n: 4, t: 17, list: []int{0, 0, 1, 0}}, slotList([]int{4, 13, 13, 4}, true)},
		{"EncodeSlots", slotArgs{n: 4, t: 17, list: []int{4, 13, 13, 4}}, slotList([]int{0, 0, 1, 0}, true)},
		{"DecodeSlots", slotArgs{n: 8, t: 17, list: []int{0, 1, 0, 0, 0, 0, 0, 0}}, slotList([]int{3, 10, 14, 7, 6, 12, 11, 5}, true)},
		{"TurnOfRows", slotArgs{n: 2, k: 0}, slotTurn(1, true)},
		{"TurnOfRows", slotArgs{n: 2, k: 1}, slotAnswer{}},
		{"TurnOfRows", slotArgs{n: 4, k: 1}, slotTurn(3, true)},
		{"TurnOfRows", slotArgs{n: 8, k: 3}, slotTurn(11, true)},
		{"TurnOfRows", slotArgs{n: 16, k: 7}, slotTurn(11, true)},
		{"TurnOfRows", slotArgs{n: 16, k: 8}, slotAnswer{}},
		{"TurnOfRows", slotArgs{n: 16, k: -1}, slotAnswer{}},
		{"TurnOfSwap", slotArgs{n: 2}, slotTurn(3, true)},
		{"TurnOfSwap", slotArgs{n: 16}, slotTurn(31, true)},
		{"TurnOfSwap", slotArgs{n: 32}, slotAnswer{}},
		{"MovedSlots", slotArgs{n: 2, g: 3, list: []int{-5, 6}}, slotList([]int{6, -5}, true)},
		{"MovedSlots", slotArgs{n: 4, g: 3, list: []int{5, 6, 7, 8}}, slotList([]int{6, 5, 8, 7}, true)},
		{"MovedSlots", slotArgs{n: 4, g: 5, list: []int{5, 6, 7, 8}}, slotList([]int{8, 7, 6, 5}, true)},
		{"MovedSlots", slotArgs{n: 8, g: 3, list: []int{0, 1, 2, 3, 4, 5, 6, 7}}, slotList([]int{1, 2, 3, 0, 5, 6, 7, 4}, true)},
		{"MovedSlots", slotArgs{n: 8, g: 11, list: []int{0, 1, 2, 3, 4, 5, 6, 7}}, slotList([]int{3, 0, 1, 2, 7, 4, 5, 6}, true)},
		{"MovedSlots", slotArgs{n: 8, g: 13, list: []int{0, 1, 2, 3, 4, 5, 6, 7}}, slotList([]int{5, 6, 7, 4, 1, 2, 3, 0}, true)},
		{"MovedSlots", slotArgs{n: 8, g: 2, list: []int{0, 1, 2, 3, 4, 5, 6, 7}}, slotAnswer{}},
	}
	for _, c := range cases {
		if got := slotFunction(c.name).call(c.x); !got.same(c.want) {
			t.Errorf("%s of %+v = %v, want %v", c.name, c.x, got, c.want)
		}
		checkSlot(t, slotFunction(c.name), c.x)
	}
}

// What is enciphered is reckoned with slot by slot too, wherever the bounds are below the limit.
func TestSlotsOfWhatIsEnciphered(t *testing.T) {
	d := dice(107)
	for _, n := range ringSizes {
		for _, T := range []int{primeFor(n, 2*n+1, 1), 193} {
			p := impl.Params{N: n, T: T, Noise: 3, Primes: fittingPrimes(n, impl.MaxRow, -1)}
			r := keyringOf(t, p, d.small(n, 1), &d)
			ring, _ := wantRing(T, n)
			a, b := d.polynomial(ring), d.polynomial(ring)
			x, y := r.fresh(t, ofSlots(t, ring, a)), r.fresh(t, ofSlots(t, ring, b))
			product := r.switched(t, r.product(t, x, y))
			checkSlotsOf(t, r, r.sum(t, x, y), modT(p, addedInts(a, b)))
			checkSlotsOf(t, r, product, wantMulEach(ringArgs{ring: ring, a: a, b: b}))
			for k := range n / 2 {
				g := askTurn(t, "TurnOfRows", n, k)
				checkSlotsOf(t, r, r.turned(t, x, g, r.turnPairs(t, g)), rowsMoved(a, k))
			}
			g := askTurn(t, "TurnOfSwap", n, 0)
			checkSlotsOf(t, r, r.turned(t, x, g, r.turnPairs(t, g)), rowsSwapped(a))
		}
	}
}

func checkSlotsOf(t *testing.T, r keyring, x held, want []int) {
	t.Helper()
	if x.bound.Cmp(limitOf(r.p)) >= 0 {
		t.Fatalf("%v: the bound is not below the limit", r.p)
	}
	ring := impl.Ring{P: r.p.T, N: r.p.N}
	if slots := inSlots(t, ring, askPlain(t, r.p, r.s, x.c)); !slices.Equal(slots, want) {
		t.Errorf("%v: the slots are %v, want %v", r.p, slots, want)
	}
}
