package tests

import (
	"math"
	"math/cmplx"
	"slices"
	"testing"

	"loop.example/g00133/impl"
)

// Promise 3: transforms come back, and turn products into products one by one; turns are tables.

func TestRingsHaveTheLeastRoot(t *testing.T) {
	cases := []impl.Ring{{P: 5, N: 2, Root: 2}, {P: 13, N: 2, Root: 5}, {P: 17, N: 4, Root: 2}, {P: 17, N: 8, Root: 3}, {P: 97, N: 16, Root: 19}, {P: 65537, N: 16, Root: 2}}
	for _, c := range cases {
		if r, ok := impl.RingOf(c.P, c.N); !ok || r != c {
			t.Errorf("RingOf(%d, %d) = %v, %v", c.P, c.N, r, ok)
		}
	}
	for p := range 4000 {
		for _, n := range ringSizes {
			checkRingOf(t, p, n)
		}
	}
	for _, r := range goodRings(t) {
		checkRingOf(t, r.P, r.N)
	}
}

func checkRingOf(t *testing.T, p int, n int) {
	t.Helper()
	mustAnswer(t, "RingOf", func() {
		got, told := impl.RingOf(p, n)
		if want, ok := wantRing(p, n); got != want || told != ok {
			t.Errorf("RingOf(%d, %d) = %v, %v, want %v, %v", p, n, got, told, want, ok)
		}
	})
}

func TestBitsGoBack(t *testing.T) {
	cases := []struct{ k, bits, want int }{{0, 0, 0}, {0, 1, 0}, {1, 1, 1}, {1, 3, 4}, {3, 3, 6}, {6, 4, 6}, {1, 10, 512}, {1023, 10, 1023}, {512, 10, 1}, {0, 10, 0}, {11, 5, 26}}
	for _, c := range cases {
		if n := impl.BitBack(c.k, c.bits); n != c.want {
			t.Errorf("BitBack(%d, %d) = %d, want %d", c.k, c.bits, n, c.want)
		}
	}
	for bits := range 11 {
		for k := range 1 << bits {
			back := impl.BitBack(k, bits)
			if back != wantBack(k, bits) || impl.BitBack(back, bits) != k {
				t.Errorf("BitBack(%d, %d) = %d", k, bits, back)
			}
		}
	}
}

func TestForwardHasTheValueAtEachPoint(t *testing.T) {
	for _, r := range goodRings(t) {
		x := append([]int{0, 1}, make([]int, r.N-2)...)
		f := ask(t, "Forward", ringArgs{ring: r, a: x})
		for k, point := range f {
			if want := pointAt(r, k); point != want {
				t.Errorf("%v: the point at place %d is %d, want %d", r, k, point, want)
			}
			if wantPow(point, r.N, r.P) != r.P-1 {
				t.Errorf("%v: X^N + 1 is not 0 at %d", r, point)
			}
		}
		slices.Sort(f)
		if len(slices.Compact(f)) != r.N {
			t.Errorf("%v: points come twice", r)
		}
	}
}

// All functions at edges, and at polynomials as they come.
func TestRingFunctionsAgreeWithTheSecondReckoning(t *testing.T) {
	d := dice(3)
	for _, r := range goodRings(t) {
		for _, f := range ringFunctions {
			for _, a := range edgePolynomials(r) {
				checkRing(t, f, ringArgs{ring: r, a: a, b: a, g: 2*r.N - 1})
				checkRing(t, f, ringArgs{ring: r, a: a, b: d.polynomial(r), g: 2*d.below(r.N) + 1})
				checkRing(t, f, ringArgs{ring: r, a: d.polynomial(r), b: a, g: 1})
			}
			for range 20 {
				checkRing(t, f, ringArgs{ring: r, a: d.polynomial(r), b: d.polynomial(r), g: 2*d.below(r.N) + 1})
			}
		}
	}
}

func TestTransformsComeBack(t *testing.T) {
	d := dice(33)
	for _, r := range goodRings(t) {
		lists := edgePolynomials(r)
		for range 100 {
			lists = append(lists, d.polynomial(r))
		}
		for _, a := range lists {
			checkComesBack(t, r, a)
		}
	}
}

// All that there are, where these are few.
func TestAllPolynomialsOfSmallRings(t *testing.T) {
	for _, c := range []struct{ p, n int }{{5, 2}, {13, 2}, {17, 2}, {17, 4}} {
		r, _ := wantRing(c.p, c.n)
		a := make([]int, r.N)
		for more := true; more; more = nextList(a, r.P) {
			checkComesBack(t, r, a)
			if f := ask(t, "Forward", ringArgs{ring: r, a: a}); !slices.Equal(f, wantForward(ringArgs{ring: r, a: a})) {
				t.Errorf("Forward of %v and %v = %v", r, a, f)
			}
		}
	}
}

func TestAllProductsOfTheLeastRing(t *testing.T) {
	r := impl.Ring{P: 5, N: 2, Root: 2}
	both := make([]int, 4)
	for more := true; more; more = nextList(both, r.P) {
		for _, f := range ringFunctions {
			checkRing(t, f, ringArgs{ring: r, a: both[:2:2], b: both[2:], g: 3})
		}
	}
}

// nextList counts up, and tells false once all have been there.
func nextList(a []int, p int) bool {
	for i := range a {
		a[i]++
		if a[i] < p {
			return true
		}
		a[i] = 0
	}
	return false
}

func checkComesBack(t *testing.T, r impl.Ring, a []int) {
	t.Helper()
	ahead := ask(t, "Forward", ringArgs{ring: r, a: a})
	if back := ask(t, "Inverse", ringArgs{ring: r, a: ahead}); !slices.Equal(back, a) {
		t.Errorf("%v: Inverse of Forward of %v is %v", r, a, back)
	}
	back := ask(t, "Inverse", ringArgs{ring: r, a: a})
	if ahead := ask(t, "Forward", ringArgs{ring: r, a: back}); !slices.Equal(ahead, a) {
		t.Errorf("%v: Forward of Inverse of %v is %v", r, a, ahead)
	}
}

func TestProductsGoOneByOne(t *testing.T) {
	d := dice(333)
	for _, r := range goodRings(t) {
		lists := append(edgePolynomials(r), d.polynomial(r), d.polynomial(r), d.polynomial(r))
		for _, a := range lists {
			for _, b := range lists {
				product := ask(t, "MulRing", ringArgs{ring: r, a: a, b: b})
				ahead := ask(t, "Forward", ringArgs{ring: r, a: product})
				each := ask(t, "MulEach", ringArgs{ring: r, a: ask(t, "Forward", ringArgs{ring: r, a: a}), b: ask(t, "Forward", ringArgs{ring: r, a: b})})
				if !slices.Equal(ahead, each) {
					t.Errorf("%v: Forward of %v times %v is %v, one by one it is %v", r, a, b, ahead, each)
				}
			}
		}
	}
}

func TestXToTheNIsMinusOne(t *testing.T) {
	for _, r := range goodRings(t) {
		x := append([]int{0, 1}, make([]int, r.N-2)...)
		power := append([]int{1}, make([]int, r.N-1)...)
		minusOne := append([]int{r.P - 1}, make([]int, r.N-1)...)
		for range r.N {
			power = ask(t, "MulRing", ringArgs{ring: r, a: power, b: x})
		}
		if !slices.Equal(power, minusOne) {
			t.Errorf("%v: X^N is %v", r, power)
		}
	}
}

func TestTurnsAreTables(t *testing.T) {
	d := dice(3333)
	for _, r := range goodRings(t) {
		// X alone has another value at each point, so only one table can agree with it
		x := append([]int{0, 1}, make([]int, r.N-2)...)
		lists := append(edgePolynomials(r), x, d.polynomial(r), d.polynomial(r))
		for g := 1; g < 2*r.N; g += 2 {
			table, ok := impl.TurnTable(r.N, g)
			if !ok || len(table) != r.N {
				t.Fatalf("TurnTable(%d, %d) = %v, %v", r.N, g, table, ok)
			}
			for _, a := range lists {
				checkTurned(t, r, a, g, table)
			}
		}
	}
}

func checkTurned(t *testing.T, r impl.Ring, a []int, g int, table []int) {
	t.Helper()
	ahead := ask(t, "Forward", ringArgs{ring: r, a: a})
	turned := ask(t, "Forward", ringArgs{ring: r, a: ask(t, "TurnRing", ringArgs{ring: r, a: a, g: g})})
	for k, place := range table {
		if place < 0 || place >= r.N || turned[k] != ahead[place] {
			t.Errorf("%v: %v turned by %d is ahead %v, by the table %v of %v", r, a, g, turned, table, ahead)
			return
		}
	}
}

func TestTurnsOfASmallRing(t *testing.T) {
	r := impl.Ring{P: 17, N: 4, Root: 2}
	cases := []struct {
		g    int
		want []int
	}{{1, []int{3, 5, 7, 11}}, {3, []int{3, 11, 10, 5}}, {5, []int{3, 12, 7, 6}}, {7, []int{3, 6, 10, 12}}}
	for _, c := range cases {
		if b := ask(t, "TurnRing", ringArgs{ring: r, a: []int{3, 5, 7, 11}, g: c.g}); !slices.Equal(b, c.want) {
			t.Errorf("turned by %d: %v, want %v", c.g, b, c.want)
		}
	}
	if table, ok := impl.TurnTable(4, 3); !ok || !slices.Equal(table, []int{2, 3, 0, 1}) {
		t.Error(table, ok)
	}
}

// The points as complex numbers of the language, beside those of the rings: they are turned alike.
func TestTablesOfComplexPoints(t *testing.T) {
	for _, n := range ringSizes {
		for g := 1; g < 2*n; g += 2 {
			table, ok := impl.TurnTable(n, g)
			if want, _ := wantTurnTable(n, g); !ok || !slices.Equal(table, want) {
				t.Errorf("TurnTable(%d, %d) = %v, %v, want %v", n, g, table, ok, want)
			}
		}
	}
}

// Small numbers multiplied by way of the complex points are those that are multiplied in the ring.
func TestProductsByComplexPoints(t *testing.T) {
	d := dice(7)
	for _, n := range ringSizes {
		r, _ := wantRing(primeFor(n, impl.MaxPrime-2*n+1, -1), n)
		for range 50 {
			a, b := make([]int, n), make([]int, n)
			for i := range n {
				a[i], b[i] = d.below(1000), d.below(1000)
			}
			want := complexProduct(a, b)
			for i := range want {
				want[i] = bigMod(want[i], r.P)
			}
			if got := ask(t, "MulRing", ringArgs{ring: r, a: a, b: b}); !slices.Equal(got, want) {
				t.Errorf("%v: %v times %v is %v, by complex points %v", r, a, b, got, want)
			}
		}
	}
}

// complexProduct takes the values at all points, multiplies them one by one, and goes back.
func complexProduct(a []int, b []int) []int {
	n := len(a)
	product := make([]int, n)
	for i := range product {
		sum := 0i
		for k := range n {
			point := complexPoint(k, n)
			sum += complexValue(a, point) * complexValue(b, point) * cmplx.Pow(point, complex(float64(-i), 0))
		}
		product[i] = int(math.Round(real(sum) / float64(n)))
	}
	return product
}

func complexValue(a []int, point complex128) complex128 {
	value := 0i
	for _, x := range slices.Backward(a) {
		value = value*point + complex(float64(x), 0)
	}
	return value
}
