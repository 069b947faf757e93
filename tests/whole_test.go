package tests

import (
	"math"
	"math/big"
	"slices"
	"testing"

	"loop.example/g00133/impl"
)

// Promise 2: quotients and what is left make the number again.
func checkQuotient(t *testing.T, a impl.Whole, b impl.Whole) {
	t.Helper()
	q, r, ok := impl.DivWholes(a, b)
	if !ok || !isGoodWhole(q) || !isGoodWhole(r) {
		t.Fatalf("DivWholes(%v, %v) = %v, %v, %v", a, b, q, r, ok)
	}
	if r.Neg || bigFrom(r).Cmp(bigFrom(b)) >= 0 || impl.CmpWholes(r, b) != -1 {
		t.Fatalf("DivWholes(%v, %v) leaves %v", a, b, r)
	}
	product := new(big.Int).Mul(bigFrom(q), bigFrom(b))
	if product.Add(product, bigFrom(r)).Cmp(bigFrom(a)) != 0 {
		t.Fatalf("DivWholes(%v, %v) = %v, %v do not make it again", a, b, q, r)
	}
	// a quotient down of one below 0 times b may need a limb more than there may be
	times, ok := impl.MulWholes(q, b)
	if !ok && !a.Neg {
		t.Fatalf("MulWholes(%v, %v) is refused", q, b)
	}
	if again, okAgain := impl.AddWholes(times, r); ok && (!okAgain || !sameWhole(again, a)) {
		t.Fatalf("%v times %v and %v is %v, want %v", q, b, r, again, a)
	}
}

// checkNearest: of two as near the greater, so a less x b may be -b / 2, but not b / 2.
func checkNearest(t *testing.T, a impl.Whole, b impl.Whole) {
	t.Helper()
	x, ok := impl.RoundWholes(a, b)
	if !ok || !isGoodWhole(x) {
		t.Fatalf("RoundWholes(%v, %v) = %v, %v", a, b, x, ok)
	}
	off := new(big.Int).Mul(bigFrom(x), bigFrom(b))
	off.Lsh(off.Sub(bigFrom(a), off), 1)
	if off.Cmp(bigFrom(b)) >= 0 || off.Cmp(new(big.Int).Neg(bigFrom(b))) < 0 {
		t.Fatalf("RoundWholes(%v, %v) = %v is not the nearest, or not the greater of two", a, b, x)
	}
}

func TestQuotientsAndRoundsOfSmallNumbers(t *testing.T) {
	for a := -60; a <= 60; a++ {
		for b := 1; b <= 25; b++ {
			checkQuotient(t, impl.WholeOf(a), impl.WholeOf(b))
			checkNearest(t, impl.WholeOf(a), impl.WholeOf(b))
		}
	}
}

func TestQuotientsAndRoundsAtTheEdges(t *testing.T) {
	for _, a := range edgeWholes() {
		for _, b := range edgeWholes() {
			if bigFrom(b).Sign() > 0 {
				checkQuotient(t, a, b)
				checkNearest(t, a, b)
			}
		}
	}
}

func TestQuotientsAndRoundsOfManyNumbers(t *testing.T) {
	d := dice(21)
	for range 60000 {
		count := d.below(impl.MaxLimbs + 1)
		a, b := d.whole(count), d.above(1+d.below(max(count, 1)))
		checkQuotient(t, a, b)
		checkNearest(t, a, b)
	}
}

// The first limbs of these lead astray: a digit that is guessed from them is one too great.
func TestQuotientsWhoseDigitsAreGuessedTooGreat(t *testing.T) {
	half := impl.Limb / 2
	pairs := [][2]impl.Whole{
		{limbs(0, 0, half, half-1), limbs(1, 0, half)},
		{limbs(0, topLimb-1, half), limbs(topLimb, half)},
		{limbs(3, 0, half), limbs(1, 0, half/4)},
		{limbs(0, 0, 0, half, half-1), limbs(1, 0, 0, half)},
		{limbs(topLimb, topLimb, topLimb, topLimb), limbs(topLimb, half)},
		{limbs(0, topLimb, topLimb-1), limbs(topLimb, topLimb)},
		{limbs(0, 0, 1), limbs(topLimb, topLimb)},
		{limbs(0, 0, 1, 1), limbs(1, 1, 1)},
	}
	for _, p := range pairs {
		checkQuotient(t, p[0], p[1])
		checkQuotient(t, opposite(p[0]), p[1])
		checkNearest(t, p[0], p[1])
		checkNearest(t, opposite(p[0]), p[1])
	}
	d := dice(22)
	for range 20000 {
		// a divisor that is nearly all in its first limb, and a number just below a multiple of it
		b := d.above(3 + d.below(10))
		b.Limbs[len(b.Limbs)-2] = 0
		b.Limbs[len(b.Limbs)-1] = half
		n := bigFrom(d.above(1 + d.below(10)))
		n.Sub(n.Mul(n, bigFrom(b)), bigOf(d.below(3)))
		checkQuotient(t, wholeFrom(n), b)
	}
}

func TestRoundsOfTwoAsNear(t *testing.T) {
	d := dice(23)
	for range 5000 {
		half, x := bigFrom(d.above(1+d.below(18))), bigFrom(d.whole(d.below(18)))
		// (2 x - 1) half lies in the middle of x - 1 and x times the double
		a := new(big.Int).Sub(new(big.Int).Lsh(x, 1), bigOf(1))
		a.Mul(a, half)
		b := wholeFrom(half.Lsh(half, 1))
		if got, ok := impl.RoundWholes(wholeFrom(a), b); !ok || !sameWhole(got, wholeFrom(x)) {
			t.Fatalf("RoundWholes(%v, %v) = %v, %v, want %v", a, b, got, ok, x)
		}
		less, _ := impl.RoundWholes(wholeFrom(a.Sub(a, bigOf(1))), b)
		if want := wholeFrom(x.Sub(x, bigOf(1))); !sameWhole(less, want) {
			t.Fatalf("RoundWholes(%v, %v) = %v, want %v", a, b, less, want)
		}
	}
}

func TestNamedQuotientsAndRounds(t *testing.T) {
	cases := []struct{ a, b, quotient, rest, nearest string }{
		{"7", "2", "3", "1", "4"},
		{"-7", "2", "-4", "1", "-3"},
		{"5", "2", "2", "1", "3"},
		{"-5", "2", "-3", "1", "-2"},
		{"1", "2", "0", "1", "1"},
		{"-1", "2", "-1", "1", "0"},
		{"1", "3", "0", "1", "0"},
		{"-1", "3", "-1", "2", "0"},
		{"-2", "3", "-1", "1", "-1"},
		{"0", "9", "0", "0", "0"},
		{"-268435456", "268435456", "-1", "0", "-1"},
		{"-9223372036854775808", "1", "-9223372036854775808", "0", "-9223372036854775808"},
		{"-1000000000000000000001", "1000000000000000000000", "-2", "999999999999999999999", "-1"},
		{"-1500000000000000000000", "1000000000000000000000", "-2", "500000000000000000000", "-1"},
		{"1500000000000000000000", "1000000000000000000000", "1", "500000000000000000000", "2"},
	}
	for _, c := range cases {
		a, _ := impl.ReadWhole(c.a)
		b, _ := impl.ReadWhole(c.b)
		q, r, ok := impl.DivWholes(a, b)
		if impl.WholeText(q) != c.quotient || impl.WholeText(r) != c.rest || !ok {
			t.Errorf("%s / %s = %s, %s, %v", c.a, c.b, impl.WholeText(q), impl.WholeText(r), ok)
		}
		if x, ok := impl.RoundWholes(a, b); impl.WholeText(x) != c.nearest || !ok {
			t.Errorf("%s / %s is nearest to %s, %v", c.a, c.b, impl.WholeText(x), ok)
		}
	}
}

// Promise 2: texts come back.
func checkText(t *testing.T, text string) {
	t.Helper()
	a, ok := impl.ReadWhole(text)
	b, okBig := new(big.Int).SetString(text, 10)
	if !ok || !okBig || !sameWhole(a, wholeFrom(b)) {
		t.Fatalf("ReadWhole(%q) = %v, %v", text, a, ok)
	}
	if again := impl.WholeText(a); again != text {
		t.Fatalf("%q comes back as %q", text, again)
	}
}

func checkNumberByText(t *testing.T, a impl.Whole) {
	t.Helper()
	text := impl.WholeText(a)
	if text != bigFrom(a).String() {
		t.Fatalf("WholeText(%v) = %q, want %q", a, text, bigFrom(a))
	}
	if again, ok := impl.ReadWhole(text); !ok || !sameWhole(again, a) {
		t.Fatalf("ReadWhole(%q) = %v, %v, want %v", text, again, ok, a)
	}
}

func TestTextsComeBack(t *testing.T) {
	for n := -3000; n <= 3000; n++ {
		checkText(t, bigOf(n).String())
	}
	for _, a := range edgeWholes() {
		checkNumberByText(t, a)
		checkText(t, bigFrom(a).String())
	}
	// noughts within, and at, the places where a text may be cut
	for digits := 1; digits <= 337; digits++ {
		power := new(big.Int).Exp(bigOf(10), bigOf(digits), nil)
		for near := -1; near <= 1; near++ {
			b := new(big.Int).Add(power, bigOf(near))
			checkText(t, b.String())
			checkText(t, b.Neg(b).String())
		}
	}
	d := dice(24)
	for range 3000 {
		checkNumberByText(t, d.whole(d.below(impl.MaxLimbs+1)))
	}
}

func TestTextsAtTheGreatestNumber(t *testing.T) {
	most := greatest()
	checkText(t, most.String())
	checkText(t, "-"+most.String())
	more := most.Add(most, bigOf(1)).String()
	for _, text := range []string{more, "-" + more, more + "0", "1" + more} {
		if a, ok := impl.ReadWhole(text); ok || !sameWhole(a, impl.Whole{}) {
			t.Errorf("ReadWhole(%q) = %v, %v", text, a, ok)
		}
	}
}

func TestWholesOfInts(t *testing.T) {
	d := dice(25)
	ints := slices.Clone(edgeInts)
	for i := range 3000 {
		ints = append(ints, int(d.next())>>uint(i%64))
	}
	for _, n := range ints {
		a := impl.WholeOf(n)
		if !sameWhole(a, wholeFrom(bigOf(n))) {
			t.Errorf("WholeOf(%d) = %v", n, a)
		}
	}
	if a := impl.WholeOf(math.MinInt); !sameWhole(a, impl.Whole{Neg: true, Limbs: []int{0, 0, 128}}) {
		t.Error(a)
	}
	if a := impl.WholeOf(math.MaxInt); !sameWhole(a, limbs(topLimb, topLimb, 127)) {
		t.Error(a)
	}
	if a := impl.WholeOf(0); a.Neg || len(a.Limbs) != 0 {
		t.Error(a)
	}
}

func TestFunctionsOfTwoOnManyNumbers(t *testing.T) {
	d := dice(26)
	for range 4000 {
		a, b := d.whole(d.below(impl.MaxLimbs+1)), d.whole(d.below(impl.MaxLimbs+1))
		if d.below(4) == 0 {
			b = d.whole(impl.MaxLimbs - len(a.Limbs))
		}
		for _, f := range functionsOfTwo() {
			checkTwo(t, f, a, b)
			checkTwo(t, f, a, a)
			checkTwo(t, f, a, impl.Whole{Neg: !a.Neg && len(a.Limbs) > 0, Limbs: a.Limbs})
		}
	}
}

func TestOutcomesOfJustSoManyLimbs(t *testing.T) {
	one, two := bigOf(1), bigOf(2)
	most := greatest()
	less := new(big.Int).Sub(most, one)
	root := powerOfTwo(28 * impl.MaxLimbs / 2)
	cases := []struct {
		name  string
		f     func(a impl.Whole, b impl.Whole) (impl.Whole, bool)
		a, b  *big.Int
		there bool
	}{
		{"AddWholes", impl.AddWholes, less, one, true},
		{"AddWholes", impl.AddWholes, most, one, false},
		{"AddWholes", impl.AddWholes, most, most, false},
		{"AddWholes", impl.AddWholes, most, new(big.Int).Neg(most), true},
		{"MulWholes", impl.MulWholes, most, one, true},
		{"MulWholes", impl.MulWholes, most, two, false},
		{"MulWholes", impl.MulWholes, most, most, false},
		{"MulWholes", impl.MulWholes, most, new(big.Int), true},
		{"MulWholes", impl.MulWholes, powerOfTwo(28*impl.MaxLimbs - 2), two, true},
		{"MulWholes", impl.MulWholes, powerOfTwo(28*impl.MaxLimbs - 1), two, false},
		{"MulWholes", impl.MulWholes, root, root, false},
		{"MulWholes", impl.MulWholes, new(big.Int).Sub(root, one), new(big.Int).Add(root, one), true},
		{"RoundWholes", impl.RoundWholes, most, one, true},
		{"RoundWholes", impl.RoundWholes, most, two, true},
		{"RoundWholes", impl.RoundWholes, most, most, true},
	}
	for _, c := range cases {
		for _, neg := range []bool{false, true} {
			a := new(big.Int).Set(c.a)
			b := new(big.Int).Set(c.b)
			if neg {
				a.Neg(a)
			}
			if neg && c.name == "AddWholes" {
				b.Neg(b)
			}
			x, ok := c.f(wholeFrom(a), wholeFrom(b))
			if ok != c.there || !ok && !sameWhole(x, impl.Whole{}) {
				t.Errorf("%s(%v, %v) = %v, %v", c.name, a, b, x, ok)
			}
		}
	}
}

func TestOrderOfWholes(t *testing.T) {
	edges := edgeWholes()
	slices.SortFunc(edges, func(a impl.Whole, b impl.Whole) int { return bigFrom(a).Cmp(bigFrom(b)) })
	edges = slices.CompactFunc(edges, sameWhole)
	for i, a := range edges {
		for k, b := range edges {
			want := 0
			if i < k {
				want = -1
			} else if i > k {
				want = 1
			}
			if n := impl.CmpWholes(a, b); n != want {
				t.Errorf("CmpWholes(%v, %v) = %d, want %d", a, b, n, want)
			}
		}
	}
}

func TestWordsOfManyNumbers(t *testing.T) {
	d := dice(27)
	for range 3000 {
		a := d.whole(d.below(impl.MaxLimbs + 1))
		for _, m := range []int{2, 3, 97, 100000000, lastPrime, impl.MaxPrime - 1, impl.MaxPrime, 2 + d.below(impl.MaxPrime-1)} {
			checkModWord(t, a, m)
		}
		for _, f := range functionsOfOne() {
			checkOne(t, f, a)
		}
	}
}
