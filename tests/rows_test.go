package tests

import (
	"math/big"
	"slices"
	"testing"

	"loop.example/g00133/impl"
)

// Promise 5: rows reckon as great numbers do, whether ahead or not.

// halfOf is the greatest number whose size is below half the product.
func halfOf(s impl.Space) *big.Int {
	return new(big.Int).Rsh(bigProduct(s.Primes), 1)
}

// numbersWithin are lists of N numbers whose sizes are below half the product: the edges in all places, and in each place alone, and others.
func numbersWithin(s impl.Space, d *dice) [][]*big.Int {
	half := halfOf(s)
	least := new(big.Int).Neg(half)
	one, minusOne := bigOf(1), bigOf(-1)
	lists := [][]*big.Int{noughts(s.N)}
	for _, b := range []*big.Int{half, least, one, minusOne} {
		lists = append(lists, slices.Repeat([]*big.Int{b}, s.N))
		for k := range s.N {
			alone := noughts(s.N)
			alone[k] = b
			lists = append(lists, alone)
		}
	}
	for range 10 {
		list := noughts(s.N)
		for k := range list {
			list[k] = centredBig(bigFrom(d.whole(1+d.below(impl.MaxLimbs))), bigProduct(s.Primes))
		}
		lists = append(lists, list)
	}
	return lists
}

// numbersBeyond are lists of N good whole numbers of any size: the edges one behind the other, and others.
func numbersBeyond(s impl.Space, d *dice) [][]*big.Int {
	edges := edgeNumbers(s.Primes)
	var lists [][]*big.Int
	for len(edges) > 0 {
		list := append(slices.Clone(edges[:min(s.N, len(edges))]), noughts(s.N)...)
		lists = append(lists, list[:s.N])
		edges = edges[min(s.N, len(edges)):]
	}
	for range 4 {
		list := noughts(s.N)
		for k := range list {
			list[k] = bigFrom(d.whole(d.below(impl.MaxLimbs + 1)))
		}
		lists = append(lists, list)
	}
	return lists
}

func rowsOf(t *testing.T, s impl.Space, numbers []*big.Int, ahead bool) impl.Rows {
	t.Helper()
	a := askRows(t, "RowsOf", rowsArgs{space: s, wholes: wholesFrom(numbers)})
	if a.Ahead {
		t.Fatalf("RowsOf(%v, %v) is Ahead", s, numbers)
	}
	if ahead {
		a = askRows(t, "AheadRows", rowsArgs{space: s, a: a})
	}
	if a.Ahead != ahead {
		t.Fatalf("AheadRows is not Ahead: %v, %v", s, a)
	}
	return a
}

func checkMeans(t *testing.T, what string, s impl.Space, a impl.Rows, want []*big.Int) {
	t.Helper()
	if got := askWholes(t, s, a); !slices.EqualFunc(got, centredWholes(s, want), sameWhole) {
		t.Errorf("%s, %v: %v mean %v, want %v", what, s, a, bigsFrom(got), want)
	}
}

func TestNumbersBelowHalfComeBackFromTheirRows(t *testing.T) {
	d := dice(51)
	for _, s := range goodSpaces() {
		for _, numbers := range numbersWithin(s, &d) {
			for _, ahead := range []bool{false, true} {
				got := askWholes(t, s, rowsOf(t, s, numbers, ahead))
				if !slices.EqualFunc(got, wholesFrom(numbers), sameWhole) {
					t.Errorf("%v: %v come back as %v, Ahead %v", s, numbers, bigsFrom(got), ahead)
				}
			}
		}
	}
}

func TestNumbersOfAnySizeComeBackCentred(t *testing.T) {
	d := dice(52)
	for _, s := range goodSpaces() {
		for _, numbers := range numbersBeyond(s, &d) {
			for _, ahead := range []bool{false, true} {
				checkMeans(t, "any size", s, rowsOf(t, s, numbers, ahead), numbers)
			}
		}
	}
}

// Half the product is no number, so the turn lies between the one below it and the one above.
func TestAboutHalfTheProduct(t *testing.T) {
	for _, s := range goodSpaces() {
		half := halfOf(s)
		above := new(big.Int).Add(half, bigOf(1))
		least := new(big.Int).Neg(half)
		numbers, want := noughts(s.N), noughts(s.N)
		numbers[0], numbers[s.N-1] = half, above
		want[0], want[s.N-1] = half, least
		for _, ahead := range []bool{false, true} {
			got := askWholes(t, s, rowsOf(t, s, numbers, ahead))
			if !slices.EqualFunc(got, wholesFrom(want), sameWhole) {
				t.Errorf("%v: %v come back as %v", s, numbers, bigsFrom(got))
			}
		}
	}
}

func TestRowsComeBack(t *testing.T) {
	d := dice(53)
	for _, s := range goodSpaces() {
		for _, a := range append(edgeRows(s, false), d.rows(s, false), d.rows(s, false), d.rows(s, false)) {
			ahead := askRows(t, "AheadRows", rowsArgs{space: s, a: a})
			if back := askRows(t, "BackRows", rowsArgs{space: s, a: ahead}); !ahead.Ahead || !sameRows(back, a) {
				t.Errorf("%v: %v come back as %v", s, a, back)
			}
			// of any rows that are said to be ahead, too
			f := copyOf(a, true)
			back := askRows(t, "BackRows", rowsArgs{space: s, a: f})
			if again := askRows(t, "AheadRows", rowsArgs{space: s, a: back}); back.Ahead || !sameRows(again, f) {
				t.Errorf("%v: %v come back as %v", s, f, again)
			}
			if same := askRows(t, "BackRows", rowsArgs{space: s, a: a}); !sameRows(same, a) {
				t.Errorf("%v: BackRows of %v are %v", s, a, same)
			}
			if same := askRows(t, "AheadRows", rowsArgs{space: s, a: f}); !sameRows(same, f) {
				t.Errorf("%v: AheadRows of %v are %v", s, f, same)
			}
		}
	}
}

// Each row that is ahead is Forward of the row that was, by its ring.
func TestAheadRowsAreForwardByTheirRings(t *testing.T) {
	d := dice(54)
	for _, s := range goodSpaces() {
		for _, a := range append(edgeRows(s, false), d.rows(s, false)) {
			ahead := askRows(t, "AheadRows", rowsArgs{space: s, a: a})
			for i, p := range s.Primes {
				ring, _ := impl.RingOf(p, s.N)
				if f, ok := impl.Forward(ring, a.Rows[i]); !ok || !slices.Equal(f, ahead.Rows[i]) {
					t.Errorf("%v: the row of %d ahead is %v, want %v", s, p, ahead.Rows[i], f)
				}
			}
		}
	}
}

// checkReckons asks that all five ways of reckoning mean what they mean of great numbers.
func checkReckons(t *testing.T, s impl.Space, x []*big.Int, y []*big.Int, by *big.Int, g int, ahead bool) {
	t.Helper()
	args := rowsArgs{space: s, a: rowsOf(t, s, x, ahead), b: rowsOf(t, s, y, ahead), by: wholeFrom(by), g: g}
	cases := []struct {
		name string
		want []*big.Int
	}{
		{"AddRows", bigSums(x, y)},
		{"SubRows", bigDifferences(x, y)},
		{"MulRows", bigPolyProduct(x, y)},
		{"ScaleRows", bigScaled(x, by)},
		{"TurnRows", bigTurned(x, g)},
	}
	for _, c := range cases {
		got := askRows(t, c.name, args)
		if got.Ahead != ahead {
			t.Errorf("%s of %v: Ahead is %v", c.name, args, got.Ahead)
		}
		checkMeans(t, c.name, s, got, c.want)
	}
}

func TestRowsReckonAsGreatNumbersDo(t *testing.T) {
	d := dice(55)
	for _, s := range goodSpaces() {
		within, beyond := numbersWithin(s, &d), numbersBeyond(s, &d)
		for i, x := range append(within[len(within)-12:], beyond...) {
			y := beyond[d.below(len(beyond))]
			if i%2 == 0 {
				y = within[d.below(len(within))]
			}
			by := bigFrom(d.whole(d.below(impl.MaxLimbs + 1)))
			for _, ahead := range []bool{false, true} {
				checkReckons(t, s, x, y, by, 2*d.below(s.N)+1, ahead)
			}
		}
	}
}

// All numbers at half the product make the greatest sums and products that there are.
func TestTheGreatestNumbers(t *testing.T) {
	for _, s := range fewSpaces() {
		half := halfOf(s)
		most := slices.Repeat([]*big.Int{half}, s.N)
		least := slices.Repeat([]*big.Int{new(big.Int).Neg(half)}, s.N)
		for _, ahead := range []bool{false, true} {
			for _, by := range []*big.Int{new(big.Int), bigOf(1), bigOf(-1), half, greatest(), new(big.Int).Neg(greatest()), bigProduct(s.Primes)} {
				checkReckons(t, s, most, most, by, 1, ahead)
				checkReckons(t, s, most, least, by, 2*s.N-1, ahead)
				checkReckons(t, s, least, least, by, s.N+1, ahead)
				checkReckons(t, s, noughts(s.N), least, by, s.N-1, ahead)
			}
		}
	}
}

// What is reckoned ahead and brought back is what is reckoned by rows that are not.
func TestAheadAndNotMeanTheSame(t *testing.T) {
	d := dice(56)
	for _, s := range goodSpaces() {
		lists := append(edgeRows(s, false), d.rows(s, false), d.rows(s, false))
		for _, a := range lists {
			x := rowsArgs{space: s, a: a, b: lists[d.below(len(lists))], by: d.whole(d.below(impl.MaxLimbs + 1)), g: 2*d.below(s.N) + 1}
			ahead := x
			ahead.a = askRows(t, "AheadRows", rowsArgs{space: s, a: x.a})
			ahead.b = askRows(t, "AheadRows", rowsArgs{space: s, a: x.b})
			for _, name := range []string{"AddRows", "SubRows", "MulRows", "ScaleRows", "TurnRows"} {
				want, got := askRows(t, name, x), askRows(t, name, ahead)
				if back := askRows(t, "BackRows", rowsArgs{space: s, a: got}); want.Ahead || !got.Ahead || !sameRows(back, want) {
					t.Errorf("%s of %v is %v, by way of ahead %v", name, x, want, back)
				}
			}
		}
	}
}

// Row by row it is what the ring of the prime does.
func TestRowsReckonByTheirRings(t *testing.T) {
	d := dice(57)
	for _, s := range goodSpaces() {
		a, b, f, h := d.rows(s, false), d.rows(s, false), d.rows(s, true), d.rows(s, true)
		g := 2*d.below(s.N) + 1
		product := askRows(t, "MulRows", rowsArgs{space: s, a: a, b: b})
		each := askRows(t, "MulRows", rowsArgs{space: s, a: f, b: h})
		turned := askRows(t, "TurnRows", rowsArgs{space: s, a: a, g: g})
		places := askRows(t, "TurnRows", rowsArgs{space: s, a: f, g: g})
		table, _ := impl.TurnTable(s.N, g)
		for i, p := range s.Primes {
			ring, _ := impl.RingOf(p, s.N)
			wantProduct, _ := impl.MulRing(ring, a.Rows[i], b.Rows[i])
			wantEach, _ := impl.MulEach(ring, f.Rows[i], h.Rows[i])
			wantTurned, _ := impl.TurnRing(ring, a.Rows[i], g)
			if !slices.Equal(product.Rows[i], wantProduct) || !slices.Equal(each.Rows[i], wantEach) || !slices.Equal(turned.Rows[i], wantTurned) {
				t.Errorf("%v: the row of %d: %v, %v, %v", s, p, product.Rows[i], each.Rows[i], turned.Rows[i])
			}
			for k, place := range table {
				if places.Rows[i][k] != f.Rows[i][place] {
					t.Errorf("%v: the row of %d turned by %d is %v, was %v", s, p, g, places.Rows[i], f.Rows[i])
				}
			}
		}
	}
}

func TestEveryOddTurn(t *testing.T) {
	d := dice(58)
	for _, s := range fewSpaces() {
		numbers := numbersWithin(s, &d)
		x := numbers[len(numbers)-1]
		for _, ahead := range []bool{false, true} {
			a := rowsOf(t, s, x, ahead)
			for g := 1; g < 2*s.N; g += 2 {
				turned := askRows(t, "TurnRows", rowsArgs{space: s, a: a, g: g})
				checkMeans(t, "turned", s, turned, bigTurned(x, g))
				// two turns are one: the exponents go round together
				h := 2*d.below(s.N) + 1
				twice := askRows(t, "TurnRows", rowsArgs{space: s, a: turned, g: h})
				if once := askRows(t, "TurnRows", rowsArgs{space: s, a: a, g: g * h % (2 * s.N)}); !sameRows(twice, once) {
					t.Errorf("%v: turned by %d and %d: %v, at once %v", s, g, h, twice, once)
				}
			}
			if same := askRows(t, "TurnRows", rowsArgs{space: s, a: a, g: 1}); !sameRows(same, a) {
				t.Errorf("%v: turned by 1 %v are %v", s, a, same)
			}
		}
	}
}

func TestXToTheNIsMinusOneByRows(t *testing.T) {
	for _, s := range goodSpaces() {
		for _, ahead := range []bool{false, true} {
			x, one := noughts(s.N), noughts(s.N)
			x[1], one[0] = bigOf(1), bigOf(1)
			by, power := rowsOf(t, s, x, ahead), rowsOf(t, s, one, ahead)
			for range s.N {
				power = askRows(t, "MulRows", rowsArgs{space: s, a: power, b: by})
			}
			checkMeans(t, "X^N", s, power, append([]*big.Int{bigOf(-1)}, noughts(s.N-1)...))
		}
	}
}

func TestSumsAndDifferencesUndoEachOther(t *testing.T) {
	d := dice(59)
	for _, s := range fewSpaces() {
		for _, ahead := range []bool{false, true} {
			for _, a := range append(edgeRows(s, ahead), d.rows(s, ahead)) {
				b := d.rows(s, ahead)
				left := askRows(t, "SubRows", rowsArgs{space: s, a: a, b: b})
				if again := askRows(t, "AddRows", rowsArgs{space: s, a: left, b: b}); !sameRows(again, a) {
					t.Errorf("%v: %v less %v and it again is %v", s, a, b, again)
				}
				none := askRows(t, "SubRows", rowsArgs{space: s, a: a, b: a})
				checkMeans(t, "a less a", s, none, noughts(s.N))
				// less it is as the sum with it times -1
				opposite := askRows(t, "ScaleRows", rowsArgs{space: s, a: b, by: impl.WholeOf(-1)})
				if sum := askRows(t, "AddRows", rowsArgs{space: s, a: a, b: opposite}); !sameRows(sum, left) {
					t.Errorf("%v: %v less %v is %v, and with the opposite %v", s, a, b, left, sum)
				}
			}
		}
	}
}

func TestNamedRows(t *testing.T) {
	s := impl.Space{N: 2, Primes: []int{5, 13}}
	a := rowsOf(t, s, []*big.Int{bigOf(-1), bigOf(7)}, false)
	ahead := askRows(t, "AheadRows", rowsArgs{space: s, a: a})
	cases := []struct {
		name string
		got  impl.Rows
		want impl.Rows
	}{
		{"RowsOf", a, impl.Rows{Rows: [][]int{{4, 2}, {12, 7}}}},
		{"AheadRows", ahead, impl.Rows{Ahead: true, Rows: [][]int{{3, 0}, {8, 3}}}},
		{"BackRows", askRows(t, "BackRows", rowsArgs{space: s, a: ahead}), impl.Rows{Rows: [][]int{{4, 2}, {12, 7}}}},
		{"AddRows", askRows(t, "AddRows", rowsArgs{space: s, a: a, b: a}), impl.Rows{Rows: [][]int{{3, 4}, {11, 1}}}},
		{"SubRows", askRows(t, "SubRows", rowsArgs{space: s, a: impl.Rows{Rows: [][]int{{0, 1}, {0, 1}}}, b: a}), impl.Rows{Rows: [][]int{{1, 4}, {1, 7}}}},
		// 1 - 14 X + 49 X X is -48 - 14 X
		{"MulRows", askRows(t, "MulRows", rowsArgs{space: s, a: a, b: a}), impl.Rows{Rows: [][]int{{2, 1}, {4, 12}}}},
		{"MulRows ahead", askRows(t, "MulRows", rowsArgs{space: s, a: ahead, b: ahead}), impl.Rows{Ahead: true, Rows: [][]int{{4, 0}, {12, 9}}}},
		{"ScaleRows", askRows(t, "ScaleRows", rowsArgs{space: s, a: a, by: impl.WholeOf(-3)}), impl.Rows{Rows: [][]int{{3, 4}, {3, 5}}}},
		{"ScaleRows ahead", askRows(t, "ScaleRows", rowsArgs{space: s, a: ahead, by: impl.WholeOf(-3)}), impl.Rows{Ahead: true, Rows: [][]int{{1, 0}, {2, 4}}}},
		// X^3 is -X
		{"TurnRows", askRows(t, "TurnRows", rowsArgs{space: s, a: a, g: 3}), impl.Rows{Rows: [][]int{{4, 3}, {12, 6}}}},
		{"TurnRows ahead", askRows(t, "TurnRows", rowsArgs{space: s, a: ahead, g: 3}), impl.Rows{Ahead: true, Rows: [][]int{{0, 3}, {3, 8}}}},
	}
	for _, c := range cases {
		if !sameRows(c.got, c.want) {
			t.Errorf("%s: %v, want %v", c.name, c.got, c.want)
		}
	}
}

// All numbers of the least spaces: each has rows of its own, and comes back from them, ahead or not.
func TestAllRowsOfSmallSpaces(t *testing.T) {
	for _, s := range []impl.Space{{N: 2, Primes: []int{5}}, {N: 2, Primes: []int{13}}, {N: 2, Primes: []int{5, 13}}, {N: 2, Primes: []int{13, 5}}} {
		half := intOf(halfOf(s))
		for low := -half; low <= half; low++ {
			for high := -half; high <= half; high++ {
				numbers := []*big.Int{bigOf(low), bigOf(high)}
				checkMeans(t, "not ahead", s, rowsOf(t, s, numbers, false), numbers)
				checkMeans(t, "ahead", s, rowsOf(t, s, numbers, true), numbers)
			}
		}
	}
}

func TestAllPairsOfTheLeastSpace(t *testing.T) {
	s := impl.Space{N: 2, Primes: []int{5}}
	both := make([]int, 4)
	for more := true; more; more = nextList(both, 5) {
		for _, ahead := range []bool{false, true} {
			x := rowsArgs{space: s, a: impl.Rows{Ahead: ahead, Rows: [][]int{both[:2]}}, b: impl.Rows{Ahead: ahead, Rows: [][]int{both[2:]}}, by: impl.WholeOf(both[2] - 2), g: 3}
			x.wholes = []impl.Whole{impl.WholeOf(both[0] - 2), impl.WholeOf(both[1] - 2)}
			checkAllOfRows(t, x)
		}
	}
}

// The order of the primes is that of the rows, and changes no number.
func TestPrimesOfASpaceMayBeInAnyOrder(t *testing.T) {
	d := dice(60)
	for _, n := range ringSizes {
		small, great := fittingPrimes(n, 2, 1), fittingPrimes(n, 2, -1)
		l := append(small, great...)
		first := impl.Space{N: n, Primes: l}
		lists := numbersWithin(first, &d)
		x, y, by, g := lists[len(lists)-1], lists[len(lists)-2], bigFrom(d.whole(5)), 2*d.below(n)+1
		a := rowsOf(t, first, x, false)
		for _, places := range ordersOf(len(l)) {
			s := impl.Space{N: n}
			for _, place := range places {
				s.Primes = append(s.Primes, l[place])
			}
			moved := rowsOf(t, s, x, false)
			for i, place := range places {
				if !slices.Equal(moved.Rows[i], a.Rows[place]) {
					t.Errorf("%v: %v, want the rows of %v in another order", s, moved, a)
				}
			}
			checkReckons(t, s, x, y, by, g, false)
			checkReckons(t, s, x, y, by, g, true)
		}
	}
}

func TestDrawnSpaces(t *testing.T) {
	d := dice(61)
	for range 60 {
		s := d.space()
		numbers := numbersBeyond(s, &d)
		for _, ahead := range []bool{false, true} {
			checkAllOfRows(t, rowsArgs{space: s, a: d.rows(s, ahead), b: d.rows(s, ahead), wholes: wholesFrom(numbers[len(numbers)-1]), by: d.whole(d.below(impl.MaxLimbs + 1)), g: 2*d.below(s.N) + 1})
		}
	}
}

// space is one of primes whose sizes are as different as their places.
func (d *dice) space() impl.Space {
	s := impl.Space{N: ringSizes[d.below(len(ringSizes))]}
	for count := 1 + d.below(impl.MaxPrimes); len(s.Primes) < count; {
		p := primeFor(s.N, 2*s.N*(1+d.below(1<<d.below(23)))+1, 1)
		if isModulus(p) && !slices.Contains(s.Primes, p) {
			s.Primes = append(s.Primes, p)
		}
	}
	return s
}
