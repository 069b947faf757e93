package tests

import (
	"fmt"
	"math"
	"math/big"
	"testing"

	"loop.example/g00133/impl"
)

// Promise 14: every function of the chapter, at every edge, held against what the document asks for there: the zero answer where something is not as said.

func TestPrimeAnswersAtAnyArgument(t *testing.T) {
	for _, n := range edgeInts {
		call := fmt.Sprintf("IsPrime(%d)", uint64(n))
		mustAnswer(t, call, func() {
			if want := new(big.Int).SetUint64(uint64(n)).ProbablyPrime(0); impl.IsPrime(uint64(n)) != want {
				t.Errorf("%s is not %v", call, want)
			}
		})
	}
}

func TestPowAnswersAtAnyArgument(t *testing.T) {
	for _, a := range edgeInts {
		for _, e := range edgeInts {
			for _, p := range edgeInts {
				call := fmt.Sprintf("PowMod(%d, %d, %d)", a, e, p)
				mustAnswer(t, call, func() {
					if n := impl.PowMod(a, e, p); n != wantPow(a, e, p) {
						t.Errorf("%s = %d, want %d", call, n, wantPow(a, e, p))
					}
				})
			}
		}
	}
}

func TestFunctionsOfTwoAnswerAtAnyArgument(t *testing.T) {
	for _, a := range edgeInts {
		for _, b := range edgeInts {
			mustAnswer(t, fmt.Sprintf("of %d, %d", a, b), func() {
				if n := impl.InvMod(a, b); n != wantInv(a, b) {
					t.Errorf("InvMod(%d, %d) = %d, want %d", a, b, n, wantInv(a, b))
				}
				n, ok := impl.ShoupOf(a, b)
				if want, wantOk := wantShoup(a, b); n != want || ok != wantOk {
					t.Errorf("ShoupOf(%d, %d) = %d, %v, want %d, %v", a, b, n, ok, want, wantOk)
				}
				n, ok = impl.RootOf(a, b)
				if want, wantOk := wantRoot(a, b); n != want || ok != wantOk {
					t.Errorf("RootOf(%d, %d) = %d, %v, want %d, %v", a, b, n, ok, want, wantOk)
				}
			})
		}
	}
}

func TestTablesAnswerAtAnyArgument(t *testing.T) {
	for _, p := range edgeInts {
		mustAnswer(t, fmt.Sprintf("of %d", p), func() {
			b, ok := impl.BarrettOf(p)
			if want, wantOk := wantBarrett(p); b != want || ok != wantOk {
				t.Errorf("BarrettOf(%d) = %v, %v, want %v, %v", p, b, ok, want, wantOk)
			}
			m, ok := impl.MontOf(p)
			if want, wantOk := wantMont(p); m != want || ok != wantOk {
				t.Errorf("MontOf(%d) = %v, %v, want %v, %v", p, m, ok, want, wantOk)
			}
		})
	}
}

func checkBarrettMul(t *testing.T, b impl.Barrett, x int, y int) {
	t.Helper()
	mustAnswer(t, fmt.Sprintf("BarrettMul(%v, %d, %d)", b, x, y), func() {
		n, ok := impl.BarrettMul(b, x, y)
		if want, wantOk := wantBarrettMul(b, x, y); n != want || ok != wantOk {
			t.Errorf("BarrettMul(%v, %d, %d) = %d, %v, want %d, %v", b, x, y, n, ok, want, wantOk)
		}
	})
}

func checkMontMul(t *testing.T, m impl.Mont, x int, y int) {
	t.Helper()
	mustAnswer(t, fmt.Sprintf("MontMul(%v, %d, %d)", m, x, y), func() {
		n, ok := impl.MontMul(m, x, y)
		if want, wantOk := wantMontMul(m, x, y); n != want || ok != wantOk {
			t.Errorf("MontMul(%v, %d, %d) = %d, %v, want %d, %v", m, x, y, n, ok, want, wantOk)
		}
	})
}

func checkShoupMul(t *testing.T, w int, pre int, p int, x int) {
	t.Helper()
	mustAnswer(t, fmt.Sprintf("ShoupMul(%d, %d, %d, %d)", w, pre, p, x), func() {
		n, ok := impl.ShoupMul(w, pre, p, x)
		if want, wantOk := wantShoupMul(w, pre, p, x); n != want || ok != wantOk {
			t.Errorf("ShoupMul(%d, %d, %d, %d) = %d, %v, want %d, %v", w, pre, p, x, n, ok, want, wantOk)
		}
	})
}

func TestFactorsMayBeAny(t *testing.T) {
	for _, p := range []int{3, 9, 97, 65537, lastPrime, impl.MaxPrime - 1} {
		b, _ := wantBarrett(p)
		m, _ := wantMont(p)
		factors := append([]int{p - 1, p, p + 1}, edgeInts...)
		for _, x := range factors {
			for _, y := range factors {
				checkBarrettMul(t, b, x, y)
				checkMontMul(t, m, x, y)
			}
		}
	}
}

func TestBarrettThatIsNotSuchAOneIsRefused(t *testing.T) {
	good, _ := wantBarrett(97)
	for _, n := range edgeInts {
		checkBarrettMul(t, impl.Barrett{P: n, Shift: good.Shift, Mul: good.Mul}, 1, 1)
		checkBarrettMul(t, impl.Barrett{P: good.P, Shift: n, Mul: good.Mul}, 1, 1)
		checkBarrettMul(t, impl.Barrett{P: good.P, Shift: good.Shift, Mul: n}, 1, 1)
		checkBarrettMul(t, impl.Barrett{P: n, Shift: n, Mul: n}, 1, 1)
	}
	checkBarrettMul(t, impl.Barrett{}, 0, 0)
	// whole but for its evenness or its size
	checkBarrettMul(t, impl.Barrett{P: 96, Shift: 14, Mul: 170}, 1, 1)
	checkBarrettMul(t, impl.Barrett{P: impl.MaxPrime + 1, Shift: 58, Mul: 1073741820}, 1, 1)
	checkBarrettMul(t, impl.Barrett{P: 97, Shift: 14, Mul: 169}, 1, 1)
	checkBarrettMul(t, impl.Barrett{P: 97, Shift: 16, Mul: 675}, 1, 1)
}

func TestMontThatIsNotSuchAOneIsRefused(t *testing.T) {
	good, _ := wantMont(97)
	for _, n := range edgeInts {
		checkMontMul(t, impl.Mont{P: n, Inv: good.Inv, Two: good.Two}, 1, 1)
		checkMontMul(t, impl.Mont{P: good.P, Inv: n, Two: good.Two}, 1, 1)
		checkMontMul(t, impl.Mont{P: good.P, Inv: good.Inv, Two: n}, 1, 1)
		checkMontMul(t, impl.Mont{P: n, Inv: n, Two: n}, 1, 1)
	}
	checkMontMul(t, impl.Mont{}, 0, 0)
	checkMontMul(t, impl.Mont{P: 97, Inv: good.Inv + twoTo32, Two: good.Two}, 1, 1)
	checkMontMul(t, impl.Mont{P: 97, Inv: good.Inv - twoTo32, Two: good.Two}, 1, 1)
	checkMontMul(t, impl.Mont{P: 97, Inv: good.Inv, Two: good.Two + 97}, 1, 1)
}

func TestShoupAnswersAtAnyArgument(t *testing.T) {
	for _, w := range edgeInts {
		for _, p := range edgeInts {
			pre, _ := wantShoup(w, p)
			for _, x := range edgeInts {
				for _, off := range []int{0, 1, -1, p, twoTo32} {
					checkShoupMul(t, w, pre+off, p, x)
				}
			}
		}
	}
	for _, pre := range edgeInts {
		checkShoupMul(t, 5, pre, 97, 7)
	}
}

func TestNamedWrongInputs(t *testing.T) {
	for _, p := range []int{math.MinInt, -97, -1, 0, 1, impl.MaxPrime + 1, math.MaxInt} {
		b, okB := impl.BarrettOf(p)
		m, okM := impl.MontOf(p)
		s, okS := impl.ShoupOf(0, p)
		r, okR := impl.RootOf(p, 2)
		if b != (impl.Barrett{}) || m != (impl.Mont{}) || s != 0 || r != 0 || okB || okM || okS || okR {
			t.Errorf("%d is no modulus: %v %v %d %d", p, b, m, s, r)
		}
		if impl.PowMod(1, 1, p) != 0 || impl.InvMod(1, p) != 0 {
			t.Errorf("%d is no modulus: PowMod, InvMod", p)
		}
	}
	for _, p := range []int{2, 4, 96, impl.MaxPrime} {
		_, okB := impl.BarrettOf(p)
		_, okM := impl.MontOf(p)
		_, okR := impl.RootOf(p, 2)
		if okB || okM || okR {
			t.Errorf("%d is even: %v %v %v", p, okB, okM, okR)
		}
	}
	for _, p := range []int{9, 65, 561, impl.MaxPrime - 1} {
		if r, ok := impl.RootOf(p, 2); r != 0 || ok {
			t.Errorf("%d is no prime: %d %v", p, r, ok)
		}
	}
	for _, n := range []int{math.MinInt, -2, -1, 0, 1, 3, 6, 12, 96, 128, math.MaxInt} {
		if r, ok := impl.RootOf(769, n); r != 0 || ok {
			t.Errorf("RootOf(769, %d) = %d, %v", n, r, ok)
		}
	}
	if r, ok := impl.RootOf(769, 64); r == 0 || !ok {
		t.Error("RootOf(769, 64)", r, ok)
	}
	if n := impl.PowMod(3, -1, 7); n != 0 {
		t.Error("a power below 0", n)
	}
}
