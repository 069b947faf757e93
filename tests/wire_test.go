package tests

import (
	"bytes"
	"math/big"
	"slices"
	"testing"

	"loop.example/g00133/impl"
)

// Promise 12: boxes come back from their bytes, and bytes that are read are those that are written.

func TestBytesByHand(t *testing.T) {
	p := impl.Params{N: 2, T: 65536, Noise: 3, Primes: []int{268435361, 65537}}
	head := func(kind byte) []byte {
		return []byte{66, 70, 86, 49, kind, 2, 3, 2, 1, 0, 0, 15, 255, 255, 161, 0, 1, 0, 1}
	}
	rows, other := [][]int{{1, 268435360}, {258, 65536}}, [][]int{{16909060, 0}, {0, 5}}
	rowsBytes, otherBytes := []byte{0, 0, 0, 1, 15, 255, 255, 160, 0, 0, 1, 2, 0, 1, 0, 0}, []byte{1, 2, 3, 4, 0, 0, 0, 0, 0, 0, 0, 0, 0, 0, 0, 5}
	pair := impl.Pair{A: rows, B: other}
	pairBytes := slices.Concat(rowsBytes, otherBytes)
	for _, c := range []struct {
		box  impl.Box
		left []byte
	}{
		{impl.Box{Kind: 1, Params: p}, nil},
		{impl.Box{Kind: 2, Params: p, Plain: []int{65535, 258}}, []byte{0, 255, 255, 0, 1, 2}},
		{impl.Box{Kind: 3, Params: p, Cipher: impl.Cipher{Parts: [][][]int{rows, other}}}, slices.Concat([]byte{2}, pairBytes, []byte{0})},
		{impl.Box{Kind: 3, Params: p, Cipher: impl.Cipher{Parts: [][][]int{rows, other, rows}}, Bound: limbs(16909060, 258)}, slices.Concat([]byte{3}, pairBytes, rowsBytes, []byte{2, 1, 2, 3, 4, 0, 0, 1, 2})},
		{impl.Box{Kind: 4, Params: p, Plain: []int{-1, 1}}, []byte{255, 1}},
		{impl.Box{Kind: 4, Params: p, Plain: []int{0, -1}}, []byte{0, 255}},
		{impl.Box{Kind: 5, Params: p, Pairs: []impl.Pair{pair}}, pairBytes},
		{impl.Box{Kind: 6, Params: p, Pairs: []impl.Pair{pair, {A: other, B: rows}}}, slices.Concat(pairBytes, otherBytes, rowsBytes)},
	} {
		want := append(head(byte(c.box.Kind)), c.left...)
		if !impl.GoodBox(c.box) {
			t.Errorf("%v is not good", c.box)
		}
		if told := askBytes(t, c.box); !bytes.Equal(told, want) {
			t.Errorf("%v is written as %v, want %v", c.box, told, want)
		}
		if box := askBox(t, want); !sameBox(box, c.box) {
			t.Errorf("%v is read as %v, want %v", want, box, c.box)
		}
		// the second reckoning, which all other tests trust
		if !isBox(c.box) || !bytes.Equal(wantBytes(c.box), want) {
			t.Errorf("%v should be written as %v", c.box, wantBytes(c.box))
		}
		checkBox(t, c.box)
		checkBytes(t, want)
	}
}

func TestKindsAndCodesAreTheirNumbers(t *testing.T) {
	kinds := []int{impl.KindParams, impl.KindPlain, impl.KindCipher, impl.KindSecret, impl.KindPublic, impl.KindSwitch}
	codes := []int{impl.WireOk, impl.WireShort, impl.WireMark, impl.WireKind, impl.WireParams, impl.WireForm, impl.WireLong}
	if !slices.Equal(kinds, []int{1, 2, 3, 4, 5, 6}) || !slices.Equal(codes, []int{0, 1, 2, 3, 4, 5, 6}) {
		t.Error(kinds, codes)
	}
}

// comesBack: a good box is read of what is written of it, and is written in one way.
func comesBack(t *testing.T, b impl.Box) {
	t.Helper()
	if !checkBox(t, b) {
		t.Fatalf("%v is no box", b)
	}
	told := askBytes(t, b)
	if box := askBox(t, told); !sameBox(box, b) {
		t.Errorf("%v comes back as %v", b, box)
	}
	if checkBytes(t, told) != impl.WireOk {
		t.Errorf("%v is not read", told)
	}
}

func TestBoxesComeBack(t *testing.T) {
	d := dice(1200)
	for _, p := range slices.Concat(goodParams(), wireParams()) {
		eachForm(func(kind int, parts int) {
			for range 3 {
				comesBack(t, d.box(p, kind, parts))
			}
		})
	}
}

func TestBoxesAtTheEdgesComeBack(t *testing.T) {
	for _, p := range slices.Concat(fewParams(), wireParams()) {
		eachForm(func(kind int, parts int) {
			for _, b := range edgeBoxes(p, kind, parts) {
				comesBack(t, b)
			}
		})
	}
}

func TestDrawnBoxesComeBack(t *testing.T) {
	d := dice(1201)
	for range 500 {
		p := d.params()
		kind := 1 + d.below(6)
		comesBack(t, d.box(p, kind, 2+d.below(2)))
	}
}

// Keys and ciphers that the program makes go on working once they are read.
func TestWhatIsMadeComesBack(t *testing.T) {
	d := dice(1202)
	for i, p := range roomyParams() {
		if i%3 != 0 {
			continue
		}
		r := keyringOf(t, p, d.small(p.N, 1), &d)
		send := func(b impl.Box) impl.Box {
			b.Params = p
			comesBack(t, b)
			return askBox(t, askBytes(t, b))
		}
		g := 2*d.below(p.N) + 1
		turn := send(impl.Box{Kind: impl.KindSwitch, Pairs: r.turnPairs(t, g)}).Pairs
		r.p = send(impl.Box{Kind: impl.KindParams}).Params
		r.public = send(impl.Box{Kind: impl.KindPublic, Pairs: []impl.Pair{r.public}}).Pairs[0]
		r.relin = send(impl.Box{Kind: impl.KindSwitch, Pairs: r.relin}).Pairs
		secret := send(impl.Box{Kind: impl.KindSecret, Plain: r.s}).Plain
		plain := send(impl.Box{Kind: impl.KindPlain, Plain: d.plain(p)}).Plain
		one, two := r.fresh(t, plain), r.fresh(t, d.plain(p))
		long := r.product(t, one, two)
		for _, a := range []held{one, r.turned(t, one, g, turn), long, r.switched(t, long)} {
			box := send(impl.Box{Kind: impl.KindCipher, Cipher: a.c, Bound: wholeFrom(cutAt(p, a.bound))})
			if got := bigFrom(box.Bound); got.Cmp(cutAt(p, a.bound)) != 0 {
				t.Errorf("%v: the bound %v came back as %v", p, a.bound, got)
			}
			if !slices.Equal(askPlain(t, p, secret, box.Cipher), askPlain(t, p, r.s, a.c)) {
				t.Errorf("%v: what came back is deciphered as another plain", p)
			}
			if a.bound.Cmp(limitOf(p)) < 0 && !slices.Equal(askPlain(t, p, secret, box.Cipher), a.m) {
				t.Errorf("%v: what came back is not %v", p, a.m)
			}
		}
	}
}

// Every byte of small boxes, changed to every other one: what is read is written as the same bytes.
func TestEveryChangeOfEveryByte(t *testing.T) {
	d := dice(1203)
	codes := map[int]int{}
	for _, p := range []impl.Params{
		{N: 2, T: 3, Noise: 2, Primes: []int{5}},
		{N: 2, T: 257, Noise: 16, Primes: []int{65537, 268435361}},
	} {
		eachForm(func(kind int, parts int) {
			good := wantBytes(d.box(p, kind, parts))
			for place := range good {
				for x := range 256 {
					codes[checkBytes(t, with(good, place, byte(x)))]++
				}
			}
		})
	}
	for code := impl.WireOk; code <= impl.WireLong; code++ {
		if codes[code] < 20 {
			t.Errorf("the code %d is seen %d times: %v", code, codes[code], codes)
		}
	}
}

func TestEveryByteOfGreatBoxes(t *testing.T) {
	d := dice(1204)
	for _, p := range wireParams() {
		eachForm(func(kind int, parts int) {
			good := wantBytes(d.box(p, kind, parts))
			for place, x := range good {
				for _, other := range []byte{x + 1, x ^ 128, byte(d.below(256))} {
					checkBytes(t, with(good, place, other))
				}
			}
		})
	}
}

// Two bytes at once, anywhere.
func TestTwoBytesChanged(t *testing.T) {
	d := dice(1205)
	few, params := []byte{0, 1, 2, 3, 4, 5, 6, 7, 15, 16, 17, 254, 255}, wireParams()
	for range 60000 {
		p, kind := params[d.below(2)], 1+d.below(6)
		b := wantBytes(d.box(p, kind, 2+d.below(2)))
		for range 2 {
			b[4+d.below(len(b)-4)] = few[d.below(len(few))]
		}
		checkBytes(t, b)
	}
}

// Every cut of good bytes is short, from none on, whatever lies behind it in memory.
func TestEveryCutIsShort(t *testing.T) {
	d := dice(1206)
	for _, p := range wireParams() {
		eachForm(func(kind int, parts int) {
			good := wantBytes(d.box(p, kind, parts))
			for size := range good {
				mustRead(t, "a cut", good[:size:size], impl.WireShort)
				if code := checkBytes(t, good[:size], good[size:]...); code != impl.WireShort {
					t.Errorf("the first %d bytes of %v: %d", size, good, code)
				}
			}
		})
	}
}

func TestBytesThatAreLeft(t *testing.T) {
	d := dice(1207)
	for _, p := range wireParams() {
		eachForm(func(kind int, parts int) {
			good := wantBytes(d.box(p, kind, parts))
			for _, x := range []byte{0, 1, 2, 66, 128, 255} {
				mustRead(t, "a byte more", append(slices.Clone(good), x), impl.WireLong)
			}
			mustRead(t, "twice the box", slices.Repeat(good, 2), impl.WireLong)
			mustRead(t, "many bytes more", append(slices.Clone(good), make([]byte, 5000)...), impl.WireLong)
			// behind the length it is no more of the bytes
			if code := checkBytes(t, good, good...); code != impl.WireOk {
				t.Errorf("%v with bytes behind its length: %d", good, code)
			}
		})
	}
}

func TestOtherFirstBytes(t *testing.T) {
	good := wantBytes(noughtBox(wireParams()[0], impl.KindPlain, 0))
	for place := range 4 {
		for x := range 256 {
			code := impl.WireMark
			if good[place] == byte(x) {
				code = impl.WireOk
			}
			mustRead(t, "another mark", with(good, place, byte(x)), code)
		}
	}
	for _, mark := range []string{"\x00\x00\x00\x00", "bfv1", "BFV2", "1VFB", "FBV1", "BFV\x00", "\xff\xff\xff\xff"} {
		mustRead(t, "another mark", with(good, 0, []byte(mark)...), impl.WireMark)
	}
}

func TestOtherKinds(t *testing.T) {
	for _, p := range wireParams() {
		eachForm(func(kind int, parts int) {
			good := wantBytes(noughtBox(p, kind, parts))
			for x := range 256 {
				if x < 1 || x > 6 {
					mustRead(t, "another Kind", with(good, 4, byte(x)), impl.WireKind)
				} else {
					checkBytes(t, with(good, 4, byte(x)))
				}
			}
		})
	}
}

// fault is one that bytes may have, and what makes it of the bytes of a good box, which were so many.
type fault struct {
	name string
	code int
	make func(b []byte, p impl.Params, kind int, size int) []byte
}

// lastNumber is the place of a number's highest byte; with 254 there it is none that may be.
func lastNumber(p impl.Params, kind int, size int) int {
	switch kind {
	case impl.KindPlain:
		return size - 3
	case impl.KindSecret:
		return size - 1
	case impl.KindCipher:
		return partsFrom(p) + 1
	}
	return size - 4
}

// allFaults are told from the first that counts to the last.
func allFaults() []fault {
	return []fault{
		{"fewer than five bytes", impl.WireShort, func(b []byte, p impl.Params, kind int, size int) []byte { return b[:4] }},
		{"another mark", impl.WireMark, func(b []byte, p impl.Params, kind int, size int) []byte { return with(b, 2, 0) }},
		{"no such Kind", impl.WireKind, func(b []byte, p impl.Params, kind int, size int) []byte { return with(b, 4, 7) }},
		{"cut params", impl.WireShort, func(b []byte, p impl.Params, kind int, size int) []byte { return b[:partsFrom(p)-1] }},
		{"no good params", impl.WireParams, func(b []byte, p impl.Params, kind int, size int) []byte { return with(b, 6, 0) }},
		{"a cut content", impl.WireShort, func(b []byte, p impl.Params, kind int, size int) []byte { return b[:size-2] }},
		{"a wrong number", impl.WireForm, func(b []byte, p impl.Params, kind int, size int) []byte {
			return with(b, lastNumber(p, kind, size), 254)
		}},
		{"a byte more", impl.WireLong, func(b []byte, p impl.Params, kind int, size int) []byte { return append(slices.Clone(b), 0) }},
	}
}

// Of all faults that are there the first one counts: every choice of them, in every Kind, made from the last one to the first.
func TestTheFirstFaultCounts(t *testing.T) {
	faults := allFaults()
	for _, p := range wireParams() {
		eachForm(func(kind int, parts int) {
			good := wantBytes(noughtBox(p, kind, parts))
			for choice := range 1 << len(faults) {
				b, want, name := good, impl.WireOk, "a good box"
				for i, f := range slices.Backward(faults) {
					// params alone have no content that could be cut or wrong
					if choice>>i&1 == 0 || kind == impl.KindParams && (i == 5 || i == 6) {
						continue
					}
					b, want, name = f.make(b, p, kind, len(good)), f.code, name+", "+f.name
				}
				mustRead(t, name, b, want)
			}
		})
	}
}

func TestFaultsOfTheHead(t *testing.T) {
	for _, b := range [][]byte{nil, {}, {66}, {0, 0, 0, 0}, {66, 70, 86, 49}, {1, 2, 3, 255}} {
		mustRead(t, "fewer than five bytes", b, impl.WireShort)
	}
	mustRead(t, "five bytes", []byte{0, 0, 0, 0, 0}, impl.WireMark)
	mustRead(t, "five bytes", []byte{66, 70, 86, 48, 1}, impl.WireMark)
	for _, kind := range []byte{0, 7, 8, 128, 255} {
		mustRead(t, "five bytes", []byte{66, 70, 86, 49, kind}, impl.WireKind)
	}
	for kind := byte(1); kind <= 6; kind++ {
		mustRead(t, "five bytes", []byte{66, 70, 86, 49, kind}, impl.WireShort)
		mustRead(t, "all but a byte of T", []byte{66, 70, 86, 49, kind, 3, 0, 0, 0, 0}, impl.WireShort)
		mustRead(t, "no prime", []byte{66, 70, 86, 49, kind, 2, 1, 0, 0, 0, 2}, impl.WireParams)
		mustRead(t, "no prime, and bytes more", []byte{66, 70, 86, 49, kind, 2, 1, 0, 0, 0, 2, 0, 0, 0, 5}, impl.WireParams)
	}
}

// As many primes as the byte says must be there, also where so many are never good.
func TestHowManyPrimesAreRead(t *testing.T) {
	for _, n := range ringSizes {
		primes := fittingPrimes(n, 8, -1)
		for count := range 256 {
			l := slices.Repeat(primes, 40)[:count]
			b := wantBytes(impl.Box{Kind: impl.KindParams, Params: impl.Params{N: n, T: 2, Noise: 1, Primes: l}})
			code := impl.WireParams
			if count >= 1 && count <= 4 {
				code = impl.WireOk
			}
			mustRead(t, "so many primes", b, code)
			mustRead(t, "a byte less", b[:len(b)-1], impl.WireShort)
			if code == impl.WireOk {
				code = impl.WireLong
			}
			mustRead(t, "a byte more", append(b, 0), code)
		}
	}
}

// A number of parts that may not be is told, whatever is there behind it.
func TestHowManyPartsAreRead(t *testing.T) {
	d := dice(1208)
	for _, p := range wireParams() {
		for _, parts := range twoOrThree {
			good := wantBytes(d.box(p, impl.KindCipher, parts))
			head := good[:partsFrom(p)]
			mustRead(t, "no number of parts", head, impl.WireShort)
			for count := range 256 {
				other := with(good, len(head), byte(count))
				if count == 2 || count == 3 {
					mustRead(t, "nothing behind the number of parts", append(slices.Clone(head), byte(count)), impl.WireShort)
					checkBytes(t, other)
					continue
				}
				mustRead(t, "another number of parts", other, impl.WireForm)
				mustRead(t, "another number of parts, and a byte more", append(other, 0), impl.WireForm)
				mustRead(t, "another number of parts, and a cut", other[:len(other)-1], impl.WireForm)
				mustRead(t, "another number of parts, and nothing", other[:len(head)+1], impl.WireForm)
			}
			// so many parts, all there
			for count := range 6 {
				b := append(slices.Clone(head), byte(count))
				for range count * rowsSize(p) {
					b = append(b, 0)
				}
				code := impl.WireForm
				if count == 2 || count == 3 {
					code = impl.WireOk
				}
				mustRead(t, "so many parts", append(b, 0), code)
			}
		}
	}
}

// boundBytes are a cipher's bytes with these limbs as its Bound.
func boundBytes(p impl.Params, parts int, l ...int) []byte {
	return wantBytes(impl.Box{Kind: impl.KindCipher, Params: p, Cipher: noughtBox(p, impl.KindCipher, parts).Cipher, Bound: limbs(l...)})
}

func TestBoundsThatAreRead(t *testing.T) {
	for _, p := range slices.Concat(wireParams(), fewParams()) {
		q := bigProduct(p.Primes)
		for _, parts := range twoOrThree {
			for _, bound := range cipherBounds(p) {
				b := boundBytes(p, parts, wholeFrom(bound).Limbs...)
				mustRead(t, "a Bound up to q", b, impl.WireOk)
				if got := bigFrom(askBox(t, b).Bound); got.Cmp(bound) != 0 {
					t.Errorf("%v is read as %v", bound, got)
				}
			}
			for _, more := range []*big.Int{bigOf(1), bigOf(2), bigOf(impl.Limb), q, powerOfTwo(140)} {
				beyond := wholeFrom(new(big.Int).Add(q, more)).Limbs
				mustRead(t, "a Bound above q", boundBytes(p, parts, beyond...), impl.WireForm)
			}
		}
	}
}

func TestBoundsInWrongForms(t *testing.T) {
	for _, p := range slices.Concat(wireParams(), fewParams()) {
		for _, parts := range twoOrThree {
			for _, bound := range cipherBounds(p) {
				l := wholeFrom(bound).Limbs
				mustRead(t, "a needless nought", boundBytes(p, parts, append(l, 0)...), impl.WireForm)
				mustRead(t, "two of them", boundBytes(p, parts, append(l, 0, 0)...), impl.WireForm)
				for place := range l {
					for _, x := range []int{impl.Limb, impl.Limb + 1, 1 << 31, twoTo32 - 1} {
						other := slices.Clone(l)
						other[place] = x
						mustRead(t, "no limb", boundBytes(p, parts, other...), impl.WireForm)
					}
				}
			}
			// what it would be is below q, but that is no limb
			mustRead(t, "no limb", boundBytes(p, parts, impl.Limb), impl.WireForm)
		}
	}
}

// As many limbs as the byte says must be there; more than q has are none that may be.
func TestHowManyLimbsAreRead(t *testing.T) {
	for _, p := range wireParams() {
		top := len(wholeFrom(bigProduct(p.Primes)).Limbs)
		for count := range 256 {
			l := slices.Repeat([]int{1}, count)
			b := boundBytes(p, 2, l...)
			code := impl.WireForm
			if count < top || count == top && bigFrom(limbs(l...)).Cmp(bigProduct(p.Primes)) <= 0 {
				code = impl.WireOk
			}
			mustRead(t, "so many limbs", b, code)
			mustRead(t, "a byte less", b[:len(b)-1], impl.WireShort)
			if code == impl.WireOk {
				code = impl.WireLong
			}
			mustRead(t, "a byte more", append(b, 0), code)
			if count > 0 {
				b := boundBytes(p, 3, make([]int, count)...)
				mustRead(t, "noughts alone", b, impl.WireForm)
				mustRead(t, "noughts alone, and a cut", b[:len(b)-1], impl.WireShort)
				mustRead(t, "the number of limbs alone", b[:boundFrom(p, 3)+1], impl.WireShort)
			}
		}
	}
}

// Every byte in every place of a secret: three of them may be there.
func TestEveryByteOfASecret(t *testing.T) {
	for _, p := range wireParams() {
		good := wantBytes(noughtBox(p, impl.KindSecret, 0))
		for place := range p.N {
			for x := range 256 {
				b := with(good, partsFrom(p)+place, byte(x))
				if x > 1 && x < 255 {
					mustRead(t, "a byte of a secret", b, impl.WireForm)
					continue
				}
				mustRead(t, "a byte of a secret", b, impl.WireOk)
				if got := askBox(t, b).Plain[place]; got != map[int]int{0: 0, 1: 1, 255: -1}[x] {
					t.Errorf("the byte %d is read as %d", x, got)
				}
			}
		}
	}
}

func TestNumbersOfAPlainThatIsRead(t *testing.T) {
	for _, p := range slices.Concat(wireParams(), goodParams()) {
		good := wantBytes(noughtBox(p, impl.KindPlain, 0))
		for place := range p.N {
			for _, x := range []int{0, 1, p.T - 1, p.T, p.T + 1, 255, 256, 65535, 65536, 65537, 1<<24 - 1} {
				b := with(good, partsFrom(p)+3*place, three(x)...)
				if x >= p.T {
					mustRead(t, "a number of a plain", b, impl.WireForm)
					continue
				}
				mustRead(t, "a number of a plain", b, impl.WireOk)
				if got := askBox(t, b).Plain[place]; got != x {
					t.Errorf("%d is read as %d", x, got)
				}
			}
		}
	}
}

// In every place of all rows: the prime less 1 may be there, and the prime may not.
func TestNumbersOfRowsThatAreRead(t *testing.T) {
	for _, p := range wireParams() {
		for _, form := range [][2]int{{impl.KindCipher, 2}, {impl.KindCipher, 3}, {impl.KindPublic, 0}, {impl.KindSwitch, 0}} {
			good := wantBytes(noughtBox(p, form[0], form[1]))
			first, count := partsFrom(p), (len(good)-partsFrom(p))/4
			if form[0] == impl.KindCipher {
				first++
			}
			for number := range count {
				prime := p.Primes[number/p.N%len(p.Primes)]
				for i, x := range []int{prime - 1, prime, prime + 1, twoTo32 - 1} {
					code := impl.WireForm
					if i == 0 {
						code = impl.WireOk
					}
					mustRead(t, "a number of rows", with(good, first+4*number, four(x)...), code)
				}
			}
		}
	}
}

// One pair of a public key, and one for each prime of a switch; one too few is short, one too many is long.
func TestHowManyPairsAreRead(t *testing.T) {
	d := dice(1209)
	for _, p := range wireParams() {
		for _, kind := range []int{impl.KindPublic, impl.KindSwitch} {
			good := wantBytes(d.box(p, kind, 0))
			pair := 2 * rowsSize(p)
			mustRead(t, "as many pairs as there should be", good, impl.WireOk)
			mustRead(t, "one pair too few", good[:len(good)-pair], impl.WireShort)
			mustRead(t, "one pair too many", append(slices.Clone(good), good[len(good)-pair:]...), impl.WireLong)
			// one Kind's bytes as the other's
			code := impl.WireOk
			if len(p.Primes) > 1 {
				code = map[int]int{impl.KindPublic: impl.WireShort, impl.KindSwitch: impl.WireLong}[kind]
			}
			mustRead(t, "pairs of the other Kind", with(good, 4, byte(impl.KindPublic+impl.KindSwitch-kind)), code)
		}
	}
}

func TestParamsThatAreRead(t *testing.T) {
	for _, p := range wireParams() {
		eachForm(func(kind int, parts int) {
			good := wantBytes(noughtBox(p, kind, parts))
			for x := range 256 {
				for _, b := range [][]byte{with(good, 5, byte(x)), with(good, 6, byte(x))} {
					checkBytes(t, b)
				}
				if x != p.N && !slices.Contains(ringSizes, x) {
					mustRead(t, "another N", with(good, 5, byte(x)), impl.WireParams)
				}
				if x < 1 || x > 16 {
					mustRead(t, "another Noise", with(good, 6, byte(x)), impl.WireParams)
				}
			}
			for _, T := range []int{0, 1, slices.Min(p.Primes), 65537, 65538, 131072, 1<<24 - 1} {
				if T < 2 || T > 65536 || T >= slices.Min(p.Primes) {
					mustRead(t, "another T", with(good, 8, three(T)...), impl.WireParams)
				}
			}
			for i := range p.Primes {
				for _, x := range []int{0, 1, 2, 4, 9, p.Primes[i] + 1, impl.MaxPrime, impl.MaxPrime + 1, beyondPrime, twoTo32 - 1, p.Primes[(i+1)%len(p.Primes)]} {
					if x != p.Primes[i] {
						mustRead(t, "another prime", with(good, primesFrom+4*i, four(x)...), impl.WireParams)
					}
				}
			}
		})
	}
}

// Any bytes at all, most of them behind a good mark.
func TestDrawnBytes(t *testing.T) {
	d := dice(1210)
	for range 20000 {
		b := make([]byte, d.below(80))
		for i := range b {
			b[i] = byte(d.below(256) >> d.below(8))
		}
		if d.below(4) > 0 {
			copy(b, "BFV1")
		}
		checkBytes(t, b)
		if d.below(2) == 0 {
			p := d.params()
			head := wantBytes(impl.Box{Kind: 1 + d.below(6), Params: p})
			checkBytes(t, append(head, b...))
		}
	}
}

// Content of small numbers alone, so that much of what is drawn is good.
func TestDrawnContents(t *testing.T) {
	d := dice(1211)
	codes := map[int]int{}
	for range 20000 {
		p := impl.Params{N: 2, T: 2 + d.below(3), Noise: 1 + d.below(16), Primes: []int{5}}
		kind := 1 + d.below(6)
		b := wantBytes(impl.Box{Kind: kind, Params: p})
		for len(b) < partsFrom(p)+12 && d.below(30) > 0 {
			b = append(b, byte(d.below(3)))
		}
		for i := partsFrom(p); i < len(b); i++ {
			if kind > 4 && i%4 != 2 || kind == 2 && i%3 > 0 {
				b[i] = 0
			}
		}
		codes[checkBytes(t, b)]++
	}
	if codes[impl.WireOk] < 100 || codes[impl.WireForm] < 100 || codes[impl.WireLong] < 100 || codes[impl.WireShort] < 100 {
		t.Error(codes)
	}
}

// SizeOf is how many bytes a box has with a Bound of 0; each limb of a Bound adds four.
func TestSizesAreThoseThatAreWritten(t *testing.T) {
	d := dice(1212)
	for _, p := range slices.Concat(goodParams(), wireParams()) {
		eachForm(func(kind int, parts int) {
			size, ok := impl.SizeOf(p, kind, parts)
			box := d.box(p, kind, parts)
			box.Bound = impl.Whole{}
			if told := askBytes(t, box); !ok || size != len(told) {
				t.Errorf("SizeOf(%v, %d, %d) = %d, %v, and %d are written", p, kind, parts, size, ok, len(told))
			}
			if kind != impl.KindCipher {
				return
			}
			for _, bound := range cipherBounds(p) {
				box.Bound = wholeFrom(bound)
				if told := askBytes(t, box); len(told) != size+4*len(box.Bound.Limbs) {
					t.Errorf("%v: with the bound %v %d bytes are written, and %d with none", p, bound, len(told), size)
				}
			}
		})
	}
}

func TestSizesByHand(t *testing.T) {
	one := impl.Params{N: 2, T: 2, Noise: 1, Primes: []int{5}}
	four := impl.Params{N: 16, T: 17, Noise: 16, Primes: fittingPrimes(16, 4, 1)}
	for _, c := range []struct {
		p                 impl.Params
		kind, parts, size int
	}{
		{one, 1, 0, 15}, {one, 2, 0, 21}, {one, 3, 2, 33}, {one, 3, 3, 41}, {one, 4, 0, 17}, {one, 5, 0, 31}, {one, 6, 0, 31},
		{four, 1, 0, 27}, {four, 2, 0, 75}, {four, 3, 2, 541}, {four, 3, 3, 797}, {four, 4, 0, 43}, {four, 5, 0, 539}, {four, 6, 0, 2075},
	} {
		if size, ok := impl.SizeOf(c.p, c.kind, c.parts); size != c.size || !ok {
			t.Errorf("SizeOf(%v, %d, %d) = %d, %v, want %d", c.p, c.kind, c.parts, size, ok, c.size)
		}
	}
}
