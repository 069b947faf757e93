package tests

import (
	"fmt"
	"math"
	"math/big"
	"slices"
	"testing"

	"loop.example/g00133/impl"
)

const topLimb = impl.Limb - 1

// outcome is what any function of the chapter answers, so that all of them can be held against the second reckoning in one way.
type outcome struct {
	Wholes []impl.Whole
	Number int
	Text   string
	Ok     bool
}

func (o outcome) same(other outcome) bool {
	return slices.EqualFunc(o.Wholes, other.Wholes, sameWhole) && o.Number == other.Number && o.Text == other.Text && o.Ok == other.Ok
}

func sameWhole(a impl.Whole, b impl.Whole) bool {
	return a.Neg == b.Neg && slices.Equal(a.Limbs, b.Limbs)
}

func limbs(l ...int) impl.Whole {
	return impl.Whole{Limbs: l}
}

// opposite is for numbers that are not 0.
func opposite(a impl.Whole) impl.Whole {
	return impl.Whole{Neg: !a.Neg, Limbs: slices.Clone(a.Limbs)}
}

func isGoodWhole(a impl.Whole) bool {
	if len(a.Limbs) == 0 {
		return !a.Neg
	}
	for _, l := range a.Limbs {
		if l < 0 || l > topLimb {
			return false
		}
	}
	return len(a.Limbs) <= impl.MaxLimbs && a.Limbs[len(a.Limbs)-1] != 0
}

// bigFrom is for good ones.
func bigFrom(a impl.Whole) *big.Int {
	b := new(big.Int)
	for _, l := range slices.Backward(a.Limbs) {
		b.Lsh(b, 28).Add(b, bigOf(l))
	}
	if a.Neg {
		b.Neg(b)
	}
	return b
}

// wholeFrom is the whole number, whatever its length.
func wholeFrom(b *big.Int) impl.Whole {
	left, limb := new(big.Int).Abs(b), new(big.Int)
	a := impl.Whole{Neg: b.Sign() < 0}
	for left.Sign() > 0 {
		left.DivMod(left, bigOf(impl.Limb), limb)
		a.Limbs = append(a.Limbs, intOf(limb))
	}
	return a
}

// wholeAnswer is the outcome of one number, where that has not too many limbs.
func wholeAnswer(b *big.Int) outcome {
	a := wholeFrom(b)
	if len(a.Limbs) > impl.MaxLimbs {
		return outcome{Wholes: []impl.Whole{{}}}
	}
	return outcome{Wholes: []impl.Whole{a}, Ok: true}
}

func powerOfTwo(bits int) *big.Int {
	return new(big.Int).Lsh(bigOf(1), uint(bits))
}

// greatest is the greatest whole number that there may be.
func greatest() *big.Int {
	b := powerOfTwo(28 * impl.MaxLimbs)
	return b.Sub(b, bigOf(1))
}

// edgeWholes: at and beside each power of Limb that matters, and as far as int and MaxLimbs go, below and above 0.
func edgeWholes() []impl.Whole {
	sizes := []*big.Int{bigOf(1), bigOf(2), bigOf(3), bigOf(7), bigOf(97), bigOf(99999999), bigOf(100000000), bigOf(math.MaxInt)}
	for _, bits := range []int{14, 27, 28, 29, 55, 56, 57, 63, 64, 84, 280, 559, 560, 561, 28*20 + 14, 28 * 21, 28 * 39, 28*39 + 1, 28*40 - 1} {
		for near := -1; near <= 1; near++ {
			sizes = append(sizes, new(big.Int).Add(powerOfTwo(bits), bigOf(near)))
		}
	}
	for less := range 3 {
		sizes = append(sizes, new(big.Int).Sub(greatest(), bigOf(less)))
	}
	edges := []impl.Whole{{}}
	for _, b := range sizes {
		edges = append(edges, wholeFrom(b), wholeFrom(new(big.Int).Neg(b)))
	}
	return edges
}

// wrongWholes are not as said, each for another cause.
func wrongWholes() []impl.Whole {
	long := wholeFrom(powerOfTwo(28 * impl.MaxLimbs))
	wrong := []impl.Whole{
		{Neg: true}, {Neg: true, Limbs: []int{}}, limbs(0), limbs(0, 0), limbs(5, 0), limbs(topLimb, 1, 0), limbs(-1), limbs(impl.Limb),
		limbs(3, -1, 3), limbs(3, impl.Limb, 3), limbs(3, 3, -1), limbs(3, 3, impl.Limb), limbs(impl.Limb, 3, 3), limbs(-1, 3, 3),
		limbs(math.MinInt), limbs(math.MaxInt), limbs(1, math.MinInt, 1), limbs(1, math.MaxInt, 1), long,
		{Limbs: make([]int, impl.MaxLimbs)}, {Limbs: make([]int, impl.MaxLimbs+1)}, {Limbs: slices.Repeat([]int{1}, 100*impl.MaxLimbs)},
	}
	for _, a := range wrong[2:] {
		wrong = append(wrong, opposite(a))
	}
	return wrong
}

// whole is a number of so many limbs; limbs at the edges are as frequent as others, since quotients go astray there.
func (d *dice) whole(count int) impl.Whole {
	if count == 0 {
		return impl.Whole{}
	}
	a := impl.Whole{Neg: d.below(2) == 0}
	special := []int{0, 0, 1, 2, impl.Limb/2 - 1, impl.Limb / 2, impl.Limb/2 + 1, topLimb - 1, topLimb, topLimb}
	for range count {
		l := d.below(impl.Limb)
		if d.below(2) == 0 {
			l = special[d.below(len(special))]
		}
		a.Limbs = append(a.Limbs, l)
	}
	a.Limbs[count-1] = max(a.Limbs[count-1], 1)
	return a
}

// above is such a number that may be divided by.
func (d *dice) above(count int) impl.Whole {
	a := d.whole(count)
	a.Neg = false
	return a
}

// ofTwo is a function of two whole numbers, and what the document asks of it, by other means.
type ofTwo struct {
	name string
	call func(a impl.Whole, b impl.Whole) outcome
	want func(a *big.Int, b *big.Int) outcome
	// zero: what is answered where an argument is not as said
	zero outcome
}

func functionsOfTwo() []ofTwo {
	none := outcome{Wholes: []impl.Whole{{}}}
	return []ofTwo{
		{"AddWholes", func(a impl.Whole, b impl.Whole) outcome {
			x, ok := impl.AddWholes(a, b)
			return outcome{Wholes: []impl.Whole{x}, Ok: ok}
		}, func(a *big.Int, b *big.Int) outcome {
			return wholeAnswer(new(big.Int).Add(a, b))
		}, none},
		{"MulWholes", func(a impl.Whole, b impl.Whole) outcome {
			x, ok := impl.MulWholes(a, b)
			return outcome{Wholes: []impl.Whole{x}, Ok: ok}
		}, func(a *big.Int, b *big.Int) outcome {
			return wholeAnswer(new(big.Int).Mul(a, b))
		}, none},
		{"CmpWholes", func(a impl.Whole, b impl.Whole) outcome {
			return outcome{Number: impl.CmpWholes(a, b)}
		}, func(a *big.Int, b *big.Int) outcome {
			return outcome{Number: a.Cmp(b)}
		}, outcome{}},
		{"DivWholes", func(a impl.Whole, b impl.Whole) outcome {
			q, r, ok := impl.DivWholes(a, b)
			return outcome{Wholes: []impl.Whole{q, r}, Ok: ok}
		}, wantDiv, outcome{Wholes: []impl.Whole{{}, {}}}},
		{"RoundWholes", func(a impl.Whole, b impl.Whole) outcome {
			x, ok := impl.RoundWholes(a, b)
			return outcome{Wholes: []impl.Whole{x}, Ok: ok}
		}, wantRound, none},
	}
}

func wantDiv(a *big.Int, b *big.Int) outcome {
	if b.Sign() <= 0 {
		return outcome{Wholes: []impl.Whole{{}, {}}}
	}
	q, r := new(big.Int).DivMod(a, b, new(big.Int))
	return outcome{Wholes: []impl.Whole{wholeFrom(q), wholeFrom(r)}, Ok: true}
}

// wantRound is (2 a and b) / 2 b, down.
func wantRound(a *big.Int, b *big.Int) outcome {
	if b.Sign() <= 0 {
		return outcome{Wholes: []impl.Whole{{}}}
	}
	twice := new(big.Int).Lsh(a, 1)
	return wholeAnswer(twice.Div(twice.Add(twice, b), new(big.Int).Lsh(b, 1)))
}

// checkTwo holds one call against the second reckoning, and looks after its arguments' memory.
func checkTwo(t *testing.T, f ofTwo, a impl.Whole, b impl.Whole) {
	t.Helper()
	want := f.zero
	if isGoodWhole(a) && isGoodWhole(b) {
		want = f.want(bigFrom(a), bigFrom(b))
	}
	checkCall(t, fmt.Sprintf("%s(%v, %v)", f.name, a, b), want, []impl.Whole{a, b}, func(l []impl.Whole) outcome {
		return f.call(l[0], l[1])
	})
}

// ofOne is a function of one whole number.
type ofOne struct {
	name string
	call func(a impl.Whole) outcome
	want func(a *big.Int) outcome
}

func functionsOfOne() []ofOne {
	return []ofOne{
		{"GoodWhole", func(a impl.Whole) outcome {
			return outcome{Ok: impl.GoodWhole(a)}
		}, func(a *big.Int) outcome {
			return outcome{Ok: true}
		}},
		{"BitsOf", func(a impl.Whole) outcome {
			return outcome{Number: impl.BitsOf(a)}
		}, func(a *big.Int) outcome {
			return outcome{Number: a.BitLen()}
		}},
		{"WholeText", func(a impl.Whole) outcome {
			return outcome{Text: impl.WholeText(a)}
		}, func(a *big.Int) outcome {
			return outcome{Text: a.String()}
		}},
	}
}

func checkOne(t *testing.T, f ofOne, a impl.Whole) {
	t.Helper()
	want := outcome{}
	if isGoodWhole(a) {
		want = f.want(bigFrom(a))
	}
	checkCall(t, fmt.Sprintf("%s(%v)", f.name, a), want, []impl.Whole{a}, func(l []impl.Whole) outcome {
		return f.call(l[0])
	})
}

func checkModWord(t *testing.T, a impl.Whole, m int) {
	t.Helper()
	want := outcome{}
	if isGoodWhole(a) && isModulus(m) {
		want.Number = intOf(new(big.Int).Mod(bigFrom(a), bigOf(m)))
	}
	checkCall(t, fmt.Sprintf("ModWord(%v, %d)", a, m), want, []impl.Whole{a}, func(l []impl.Whole) outcome {
		return outcome{Number: impl.ModWord(l[0], m)}
	})
}

// checkCall makes the call, and looks after the memory of its arguments and of its answer.
func checkCall(t *testing.T, call string, want outcome, args []impl.Whole, f func([]impl.Whole) outcome) {
	t.Helper()
	checkMemory(t, call, limbLists(args), func(laid [][]int) [][]int {
		got := f(withLimbs(args, laid))
		if !got.same(want) {
			t.Errorf("%s = %v, want %v", call, got, want)
		}
		return limbLists(got.Wholes)
	})
}

func limbLists(wholes []impl.Whole) [][]int {
	var lists [][]int
	for _, a := range wholes {
		lists = append(lists, a.Limbs)
	}
	return lists
}

func withLimbs(wholes []impl.Whole, lists [][]int) []impl.Whole {
	var with []impl.Whole
	for i, a := range wholes {
		with = append(with, impl.Whole{Neg: a.Neg, Limbs: lists[i]})
	}
	return with
}
