package tests

import (
	"math/big"
	"slices"
	"testing"

	"loop.example/g00133/impl"
)

// Promise 6: a fast way is off by fewer products than there are primes; the exact ones are exact within their bounds.

func overOf(t *testing.T, r []int, from []int) int {
	t.Helper()
	over, ok := impl.OverOf(r, from)
	if !ok || over < 0 || over > len(from)-1 {
		t.Fatalf("OverOf(%v, %v) = %d, %v", r, from, over, ok)
	}
	return over
}

// fastSum is the sum that the program's own number of products over tells.
func fastSum(t *testing.T, r []int, from []int) *big.Int {
	t.Helper()
	sum := new(big.Int).Mul(bigOf(overOf(t, r, from)), bigProduct(from))
	return sum.Add(sum, bigComposed(r, from))
}

func checkFastAndOver(t *testing.T, r []int, from []int, to []int) {
	t.Helper()
	fast, ok := impl.FastConvert(r, from, to)
	if want := bigResidues(fastSum(t, r, from), to); !ok || !slices.Equal(fast, want) {
		t.Errorf("FastConvert(%v, %v, %v) = %v, %v, want %v: %d products over", r, from, to, fast, ok, want, overOf(t, r, from))
	}
}

func TestFastIsOffByWhatIsOver(t *testing.T) {
	d := dice(61)
	for _, from := range goodBases() {
		residues := edgeResidues(from)
		for range 10 {
			residues = append(residues, d.residues(from))
		}
		for _, r := range residues {
			for _, to := range append(otherBases(), from, backward(from)) {
				checkFastAndOver(t, r, from, to)
			}
		}
	}
}

// By a prime of from itself nothing is off: the residue stays.
func TestFastKeepsResiduesOfPrimesInCommon(t *testing.T) {
	d := dice(62)
	for _, from := range goodBases() {
		for _, r := range append(edgeResidues(from), d.residues(from), d.residues(from)) {
			if got, ok := impl.FastConvert(r, from, from); !ok || !slices.Equal(got, r) {
				t.Errorf("FastConvert(%v, %v, the same) = %v, %v", r, from, got, ok)
			}
		}
	}
}

// Every number of products from none to the number of primes less 1 is over somewhere.
func TestAllThatMayBeOver(t *testing.T) {
	d := dice(63)
	for count := 1; count <= impl.MaxPrimes; count++ {
		for _, from := range [][]int{smallPrimes(count + 3)[3:], greatPrimes(count)} {
			seen := make([]int, count)
			for range 5000 {
				seen[overOf(t, d.residues(from), from)]++
			}
			// the shares themselves are drawn here: all of them greatest makes the most that is over
			most := make([]int, count)
			for i, p := range from {
				others := new(big.Int).Mul(bigPunctured(from, i), bigOf(p-1))
				most[i] = intOf(others.Mod(others, bigOf(p)))
			}
			seen[overOf(t, most, from)]++
			if most := overOf(t, most, from); most != count-1 || slices.Min(seen) == 0 {
				t.Errorf("%v: over are %v, at the most %d", from, seen, most)
			}
		}
	}
}

func checkExact(t *testing.T, n *big.Int, from []int, extra int, to []int) {
	t.Helper()
	r, at := bigResidues(n, from), bigResidues(n, []int{extra})[0]
	got, ok := impl.ExactConvert(r, from, extra, at, to)
	if want := bigResidues(n, to); !ok || !slices.Equal(got, want) {
		t.Errorf("ExactConvert(%v, %v, %d, %d, %v) = %v, %v, want %v, the residues of %v", r, from, extra, at, to, got, ok, want, n)
	}
}

// farthest is the greatest number up to which ExactConvert is exact: extra / 2 less the number of primes, times q, down.
func farthest(from []int, extra int) *big.Int {
	far := new(big.Int).Mul(bigOf(extra-2*len(from)), bigProduct(from))
	return far.Rsh(far, 1)
}

func TestExactWithinItsBounds(t *testing.T) {
	d := dice(64)
	for _, from := range goodBases() {
		for _, to := range append(otherBases(), from) {
			for _, extra := range extrasFor(from, to) {
				far := farthest(from, extra)
				for near := range 3 {
					n := new(big.Int).Sub(far, bigOf(near))
					checkExact(t, n, from, extra, to)
					checkExact(t, n.Neg(n), from, extra, to)
				}
				for range 4 {
					n := bigFrom(d.above(10))
					n.Mod(n, new(big.Int).Add(far, bigOf(1)))
					checkExact(t, n, from, extra, to)
					checkExact(t, n.Neg(n), from, extra, to)
				}
				checkExactAtTheEdges(t, from, extra, to)
			}
		}
	}
}

// checkExactAtTheEdges asks at the edges of the basis that are within the bounds.
func checkExactAtTheEdges(t *testing.T, from []int, extra int, to []int) {
	t.Helper()
	far := farthest(from, extra)
	for _, n := range edgeNumbers(from) {
		if n.CmpAbs(far) <= 0 {
			checkExact(t, n, from, extra, to)
		}
	}
}

func TestExactOfAllNumbersOfSmallBases(t *testing.T) {
	for _, from := range [][]int{{2}, {3}, {13}, {3, 2}, {5, 7}, {2, 5, 3}, {7, 3, 5}, {3, 5, 2, 7}} {
		for _, extra := range []int{primeBeside(2*len(from)+1, 1, from), 23, 29} {
			far := intOf(farthest(from, extra))
			for n := -far; n <= far; n++ {
				checkExact(t, bigOf(n), from, extra, []int{97, 2, 101})
			}
		}
	}
}

// How many products are taken away is told by extra alone: from half of it on they are added.
func TestExactTakesTheNearerNumberOfProducts(t *testing.T) {
	for _, from := range [][]int{{2}, {3, 5, 7}, {lastPrime}, greatPrimes(impl.MaxPrimes), smallPrimes(impl.MaxPrimes)} {
		q := bigProduct(from)
		to := []int{101, 103, 65537}
		r := make([]int, len(from))
		for _, extra := range []int{primeBeside(2*len(from)+1, 1, from, to), primeBeside(1000, -1, from, to), primeBeside(impl.MaxPrime, -1, from, to)} {
			half := (extra - 1) / 2
			for _, often := range []int{-half, 1 - half, -1, 0, 1, half - 1, half} {
				n := new(big.Int).Mul(bigOf(often), q)
				at := bigResidues(n, []int{extra})[0]
				got, ok := impl.ExactConvert(r, from, extra, at, to)
				if want := bigResidues(n, to); !ok || !slices.Equal(got, want) {
					t.Errorf("%v by %d: %d products are told as %v, %v, want %v", from, extra, often, got, ok, want)
				}
			}
		}
	}
}

// checkMont: the outcome times m is the sum and q c, with a c that times q takes at away modulo m.
func checkMont(t *testing.T, r []int, at int, from []int, m int, to []int) {
	t.Helper()
	got, ok := impl.SmallMont(r, at, from, m, to)
	if !ok || !areResidues(got, to) {
		t.Fatalf("SmallMont(%v, %d, %v, %d, %v) = %v, %v", r, at, from, m, to, got, ok)
	}
	q := bigProduct(from)
	found := 0
	for c := -m / 2; c < m/2; c++ {
		away := new(big.Int).Mul(q, bigOf(c))
		if bigResidues(new(big.Int).Add(away, bigOf(at)), []int{m})[0] != 0 {
			continue
		}
		found++
		sum := away.Add(away, fastSum(t, r, from))
		for i, b := range to {
			times := new(big.Int).Mul(bigOf(got[i]), bigOf(m))
			if times.Sub(times, sum).Mod(times, bigOf(b)).Sign() != 0 {
				t.Errorf("SmallMont(%v, %d, %v, %d, %v) = %v, which times m is not the sum and %d q", r, at, from, m, to, got, c)
			}
		}
	}
	if found != 1 {
		t.Errorf("%d numbers c for %d by %v and %d", found, at, from, m)
	}
}

// oddBases are those of goodBases without 2.
func oddBases() [][]int {
	return slices.DeleteFunc(goodBases(), func(l []int) bool { return slices.Contains(l, 2) })
}

func oddOtherBases() [][]int {
	return slices.DeleteFunc(otherBases(), func(l []int) bool { return slices.Contains(l, 2) })
}

func TestMontTimesTheSmallOneIsTheSumAndProducts(t *testing.T) {
	d := dice(65)
	for i, from := range oddBases() {
		tos := append(oddOtherBases(), from)
		for _, m := range []int{4, 8, 16, 64} {
			for at := range m {
				checkMont(t, d.residues(from), at, from, m, tos[(i+at)%len(tos)])
			}
		}
	}
	for _, from := range [][]int{{3}, {lastPrime}, {7, 3, 5}, greatPrimes(impl.MaxPrimes)} {
		for _, m := range []int{256, 65536} {
			for _, at := range []int{0, 1, m/2 - 1, m / 2, m/2 + 1, m - 1} {
				checkMont(t, d.residues(from), at, from, m, []int{101, lastPrime})
			}
		}
	}
}

// Where at is what is left by m of the sum, nothing is left over: the outcome is a number, and not only modulo something.
func TestMontDividesTheSum(t *testing.T) {
	d := dice(66)
	for _, from := range oddBases() {
		for _, m := range smallPowers() {
			for _, r := range append(edgeResidues(from)[:2], d.residues(from)) {
				checkMontOfTheSum(t, r, from, m)
			}
		}
	}
}

func checkMontOfTheSum(t *testing.T, r []int, from []int, m int) {
	t.Helper()
	q, sum := bigProduct(from), fastSum(t, r, from)
	at := bigResidues(sum, []int{m})[0]
	c := new(big.Int).ModInverse(q, bigOf(m))
	c.Mul(c, bigOf(-at)).Mod(c, bigOf(m))
	if c.Cmp(bigOf(m/2)) >= 0 {
		c.Sub(c, bigOf(m))
	}
	part, left := new(big.Int).QuoRem(c.Mul(c, q).Add(c, sum), bigOf(m), new(big.Int))
	if left.Sign() != 0 {
		t.Fatalf("%v of %v by %d leaves %v", r, from, m, left)
	}
	for _, to := range append(oddOtherBases(), from) {
		got, ok := impl.SmallMont(r, at, from, m, to)
		if !ok || !slices.Equal(got, bigResidues(part, to)) {
			t.Errorf("SmallMont(%v, %d, %v, %d, %v) = %v, %v, want the residues of %v", r, at, from, m, to, got, ok, part)
		}
	}
	// by from itself it is x / m: what was added are products
	for i, p := range from {
		if got, ok := impl.SmallMont(r, at, from, m, from); !ok || got[i]*m%p != r[i] {
			t.Errorf("SmallMont(%v, %d, %v, %d, the same) = %v, %v", r, at, from, m, got, ok)
		}
	}
}

// Of a number n that has both residues: n / q, down, less what is over.
func checkFloor(t *testing.T, n *big.Int, from []int, to []int) {
	t.Helper()
	r, rest := bigResidues(n, from), bigResidues(n, to)
	got, ok := impl.FloorConvert(r, rest, from, to)
	quotient := new(big.Int).Div(n, bigProduct(from))
	quotient.Sub(quotient, bigOf(overOf(t, r, from)))
	if want := bigResidues(quotient, to); !ok || !slices.Equal(got, want) {
		t.Errorf("FloorConvert(%v, %v, %v, %v) = %v, %v, want %v: %v divided", r, rest, from, to, got, ok, want, n)
	}
	fast, _ := impl.FastConvert(r, from, to)
	for i, b := range to {
		q := bigResidues(bigProduct(from), to)[i]
		if ok && (got[i]*q+fast[i]-rest[i])%b != 0 {
			t.Errorf("FloorConvert(%v, %v, %v, %v) = %v, which times q is not what is left of rest", r, rest, from, to, got)
		}
	}
}

func TestFloorDividesButForWhatIsOver(t *testing.T) {
	d := dice(67)
	for _, from := range goodBases() {
		for _, to := range otherBases() {
			if !coprime(bigProduct(from), bigProduct(to)) {
				continue
			}
			for _, n := range append(edgeNumbers(from), edgeNumbers(to)...) {
				checkFloor(t, n, from, to)
			}
			for range 5 {
				checkFloor(t, bigFrom(d.whole(1+d.below(14))), from, to)
			}
		}
	}
}

func TestFloorOfAllNumbersOfSmallBases(t *testing.T) {
	for _, pair := range [][2][]int{{{2}, {3}}, {{3}, {2}}, {{3, 2}, {5, 7}}, {{5, 7}, {2, 3}}, {{2, 3, 5}, {11}}, {{11}, {5, 3, 2}}} {
		all := intOf(bigProduct(slices.Concat(pair[0], pair[1])))
		for n := range all {
			checkFloor(t, bigOf(n), pair[0], pair[1])
		}
	}
}

// nearest is n / d to the nearest, of an odd d, so no two are as near.
func nearest(n *big.Int, d *big.Int) *big.Int {
	twice := new(big.Int).Lsh(n, 1)
	return twice.Add(twice, d).Div(twice, new(big.Int).Lsh(d, 1))
}

// checkScale: with w = t gamma x / q, down, less what is over, it is w / gamma to the nearest, modulo t.
func checkScale(t *testing.T, r []int, from []int, s scale) {
	t.Helper()
	x := convArgs{r: r, from: from, t: s.t, gamma: s.gamma}
	got, ok := impl.ScaleDown(r, from, s.t, s.gamma)
	q, number := bigProduct(from), bigComposed(r, from)
	w := new(big.Int).Mul(number, new(big.Int).Mul(bigOf(s.t), bigOf(s.gamma)))
	w.Div(w, q).Sub(w, bigOf(overOf(t, bigTimesScale(x), from)))
	want := nearest(w, bigOf(s.gamma))
	if !ok || got != intOf(want.Mod(want, bigOf(s.t))) {
		t.Errorf("ScaleDown(%v, %v, %d, %d) = %d, %v, want %v", r, from, s.t, s.gamma, got, ok, want)
	}
	checkScaleIsRounded(t, x, got)
}

// checkScaleIsRounded: t x / q to the nearest, where that is not as near to half as gamma can't tell.
func checkScaleIsRounded(t *testing.T, x convArgs, got int) {
	t.Helper()
	q, gamma := bigProduct(x.from), bigOf(x.gamma)
	exact := bigComposed(x.r, x.from)
	exact.Mul(exact, bigOf(2*x.t)).Mul(exact, gamma)
	low := new(big.Int).Sub(exact, new(big.Int).Mul(q, bigOf(2*len(x.from))))
	one := new(big.Int).Mul(q, gamma)
	round := func(twice *big.Int) *big.Int {
		n := new(big.Int).Add(twice, one)
		return n.Div(n, new(big.Int).Lsh(one, 1))
	}
	if want := round(exact); want.Cmp(round(low)) == 0 && got != intOf(want.Mod(want, bigOf(x.t))) {
		t.Errorf("ScaleDown(%v, %v, %d, %d) = %d, want %v, t x / q to the nearest", x.r, x.from, x.t, x.gamma, got, want)
	}
}

func TestScaleDownRounds(t *testing.T) {
	d := dice(68)
	for _, from := range goodBases() {
		residues := edgeResidues(from)
		for _, n := range edgeNumbers(from) {
			residues = append(residues, bigResidues(n, from))
		}
		scales := scalesFor(from)
		for _, s := range scales {
			for range 8 {
				checkScale(t, d.residues(from), from, s)
			}
		}
		for i, r := range residues {
			checkScale(t, r, from, scales[i%len(scales)])
			checkScale(t, r, from, scales[(7*i+1)%len(scales)])
		}
	}
}

func TestScaleDownOfAllNumbersOfSmallBases(t *testing.T) {
	for _, from := range [][]int{{2}, {3}, {13}, {3, 2}, {5, 7}, {2, 5, 3}, {7, 3, 11}} {
		for n := range intOf(bigProduct(from)) {
			r := bigResidues(bigOf(n), from)
			for _, s := range scalesFor(from) {
				checkScale(t, r, from, s)
			}
			for small := 2; small < 40; small++ {
				if coprime(bigOf(small), bigProduct(from)) {
					checkScale(t, r, from, scale{small, primeBeside(small+1, 1, from)})
				}
			}
		}
	}
}

// What a message times q / t and a little more is told as, is the message.
func TestScaleDownFindsMessages(t *testing.T) {
	d := dice(69)
	for _, from := range [][]int{greatPrimes(3), backward(greatPrimes(impl.MaxPrimes)), {65537, 786433, 12289}} {
		for _, s := range scalesFor(from) {
			if s.gamma < impl.MaxPrime/2 {
				continue
			}
			q := bigProduct(from)
			for range 20 {
				message := d.below(s.t)
				n := new(big.Int).Mul(q, bigOf(message))
				n.Div(n, bigOf(s.t)).Add(n, bigOf(d.below(2000)-1000)).Mod(n, q)
				if got, ok := impl.ScaleDown(bigResidues(n, from), from, s.t, s.gamma); !ok || got != message {
					t.Errorf("%d by %v, %d and %d comes back as %d, %v", message, from, s.t, s.gamma, got, ok)
				}
			}
		}
	}
}

func TestDrawnConversions(t *testing.T) {
	d := dice(70)
	for range 2000 {
		checkAllOfConv(t, d.conv())
	}
}

// Reckoned by hand: of 3, 5 and 7 the shares of 2, 3, 2 are 1, 3, 2, and their sum is 128: 23 and one product.
func TestNamedConversions(t *testing.T) {
	from, to, r := []int{3, 5, 7}, []int{11, 13}, []int{2, 3, 2}
	cases := []struct {
		name string
		x    convArgs
		want convAnswer
	}{
		{"FastConvert", convArgs{r: r, from: from, to: to}, convNumbers([]int{7, 11}, true)},
		{"FastConvert", convArgs{r: []int{2, 2, 3}, from: []int{7, 3, 5}, to: []int{13, 11}}, convNumbers([]int{11, 7}, true)},
		{"FastConvert", convArgs{r: r, from: from, to: []int{3, 2, 7}}, convNumbers([]int{2, 0, 2}, true)},
		{"OverOf", convArgs{r: r, from: from}, convNumber(1, true)},
		{"OverOf", convArgs{r: []int{0, 0, 0}, from: from}, convNumber(0, true)},
		{"OverOf", convArgs{r: []int{1, 4, 6}, from: from}, convNumber(2, true)},
		{"OverOf", convArgs{r: []int{1}, from: []int{2}}, convNumber(0, true)},
		{"ExactConvert", convArgs{r: r, from: from, extra: 101, at: 23, to: to}, convNumbers([]int{1, 10}, true)},
		{"ExactConvert", convArgs{r: r, from: from, extra: 11, at: 1, to: []int{13}}, convNumbers([]int{10}, true)},
		{"ExactConvert", convArgs{r: r, from: from, extra: 11, at: 6, to: []int{13}}, convNumbers([]int{9}, true)},
		{"SmallMont", convArgs{r: r, from: from, at: 0, m: 4, to: to}, convNumbers([]int{10, 6}, true)},
		{"SmallMont", convArgs{r: r, from: from, at: 1, m: 4, to: to}, convNumbers([]int{3, 9}, true)},
		{"SmallMont", convArgs{r: r, from: from, at: 2, m: 4, to: []int{11}}, convNumbers([]int{7}, true)},
		{"SmallMont", convArgs{r: r, from: from, at: 3, m: 4, to: []int{11}}, convNumbers([]int{6}, true)},
		{"FloorConvert", convArgs{r: []int{1, 0, 6}, rest: []int{10, 12}, from: from, to: to}, convNumbers([]int{8, 8}, true)},
		{"ScaleDown", convArgs{r: []int{1, 2, 3}, from: from, t: 2, gamma: 11}, convNumber(1, true)},
		{"ScaleDown", convArgs{r: []int{2, 0, 3}, from: from, t: 2, gamma: 11}, convNumber(1, true)},
		{"ScaleDown", convArgs{r: []int{0, 0, 0}, from: from, t: 2, gamma: 11}, convNumber(0, true)},
	}
	for _, c := range cases {
		f := convFunction(c.name)
		if got := f.call(c.x); !got.same(c.want) {
			t.Errorf("%s of %+v = %v, want %v", c.name, c.x, got, c.want)
		}
		checkConv(t, f, c.x)
	}
}

// The order of from's primes changes no outcome, and the order of to's is that of the answer.
func TestConversionsInAnyOrder(t *testing.T) {
	d := dice(71)
	from, to := []int{3, lastPrime, 17, 65537}, []int{101, 7, 268435367}
	for _, places := range ordersOf(len(from)) {
		x := goodConv(d.residues(from), from, to)
		y := x
		y.r, y.from = nil, nil
		for _, place := range places {
			y.r, y.from = append(y.r, x.r[place]), append(y.from, x.from[place])
		}
		for _, f := range convFunctions() {
			if one, two := f.call(x), f.call(y); !one.ok || !one.same(two) {
				t.Errorf("%s of %+v = %v, and in another order %v", f.name, y, one, two)
			}
		}
		checkAllOfConv(t, y)
	}
	for _, places := range ordersOf(len(to)) {
		var other []int
		for _, place := range places {
			other = append(other, to[place])
		}
		checkAllOfConv(t, goodConv(d.residues(from), from, other))
	}
}
