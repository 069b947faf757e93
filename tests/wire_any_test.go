package tests

import (
	"bytes"
	"math"
	"math/big"
	"slices"
	"testing"

	"loop.example/g00133/impl"
)

// Promise 14: every function of the chapter, at every edge and at wrong inputs, in every place.

// refusedBoxes changes good boxes of a Kind in one way, after which they must be good no more.
func refusedBoxes(t *testing.T, p impl.Params, kinds []int, change func(b *impl.Box)) {
	t.Helper()
	d := dice(1250 + p.N)
	eachForm(func(kind int, parts int) {
		if slices.Contains(kinds, kind) {
			b := d.box(p, kind, parts)
			change(&b)
			refusedBox(t, b)
		}
	})
}

// kindsBut are all Kinds but these.
func kindsBut(kinds ...int) []int {
	return slices.DeleteFunc(slices.Clone(allKinds), func(kind int) bool { return slices.Contains(kinds, kind) })
}

func TestBoxesOfEveryGoodParams(t *testing.T) {
	d := dice(1251)
	for _, p := range slices.Concat(noisyParams(), wireParams()) {
		eachForm(func(kind int, parts int) {
			if b := d.box(p, kind, parts); !checkBox(t, b) || !impl.GoodBox(b) {
				t.Errorf("%s is refused", briefly(b))
			}
			checkSize(t, p, kind, parts)
			if _, ok := impl.SizeOf(p, kind, parts); !ok {
				t.Errorf("SizeOf(%v, %d, %d) is refused", p, kind, parts)
			}
		})
	}
}

// wrongKinds are none, some of them so that their lowest byte is one.
func wrongKinds() []int {
	wrong := []int{-253, -6, -5, -4, 7, 8, 9, 255, 256, 257, 258, 259, 260, 261, 262, 65536 + 3, 1<<32 + 1, 1<<32 + 3, math.MinInt + 3}
	return slices.DeleteFunc(append(wrong, edgeInts...), func(kind int) bool { return slices.Contains(allKinds, kind) })
}

// A Kind that is none, beside what any Kind holds.
func TestWrongKinds(t *testing.T) {
	for _, p := range wireParams() {
		for _, kind := range wrongKinds() {
			refusedBoxes(t, p, allKinds, func(b *impl.Box) { b.Kind = kind })
			refusedBox(t, impl.Box{Kind: kind})
			for _, parts := range []int{0, 2, 3} {
				refusedSize(t, p, kind, parts)
			}
		}
		// what one Kind holds under another one
		d := dice(1252)
		eachForm(func(kind int, parts int) {
			for _, other := range allKinds {
				b := d.box(p, kind, parts)
				b.Kind = other
				good := checkBox(t, b)
				if other != kind && len(p.Primes) > 1 && kind > 4 && good || kind == impl.KindParams && other != kind && good {
					t.Errorf("%s is a box", briefly(b))
				}
			}
		})
	}
}

// refusedSize asks for 0 and false, whatever the second reckoning says.
func refusedSize(t *testing.T, p impl.Params, kind int, parts int) {
	t.Helper()
	mustAnswer(t, "SizeOf", func() {
		if size, ok := impl.SizeOf(p, kind, parts); size != 0 || ok {
			t.Errorf("SizeOf(%s, %d, %d) = %d, %v", briefly(p), kind, parts, size, ok)
		}
	})
	checkSize(t, p, kind, parts)
}

func TestHowManyPartsSizesTake(t *testing.T) {
	all := append([]int{-3, -2, 10, 255, 256, 258, 259, 1<<32 + 2, 1<<32 + 3, math.MinInt + 2, 1 << 62, math.MaxInt - 2}, edgeInts...)
	for _, p := range wireParams() {
		for _, kind := range append(wrongKinds(), allKinds...) {
			for _, parts := range all {
				checkSize(t, p, kind, parts)
				if !slices.Contains(allKinds, kind) || !slices.Contains(partsOfKind(kind), parts) {
					refusedSize(t, p, kind, parts)
				}
			}
		}
	}
}

// refusedWireParams asks for the zero answer of all functions, with lists as long as these params ask for.
func refusedWireParams(t *testing.T, p impl.Params) {
	t.Helper()
	filled := filledCipherArgs(p, 3)
	eachForm(func(kind int, parts int) {
		b := impl.Box{Kind: kind, Params: p}
		switch kind {
		case impl.KindPlain, impl.KindSecret:
			b.Plain = filled.m
		case impl.KindCipher:
			b.Cipher.Parts = filled.a.Parts[:min(parts, len(filled.a.Parts))]
		case impl.KindPublic:
			b.Pairs = []impl.Pair{filled.k}
		case impl.KindSwitch:
			b.Pairs = filled.pairs
		}
		refusedBox(t, b)
		refusedSize(t, p, kind, parts)
	})
}

func TestWrongParamsOfBoxes(t *testing.T) {
	for _, p := range wireParams() {
		least := slices.Min(p.Primes)
		wrong := []impl.Params{{}, {N: p.N, T: p.T, Noise: p.Noise}, {N: p.N, T: p.T, Primes: p.Primes}}
		add := func(change func(other *impl.Params)) {
			other := p
			change(&other)
			wrong = append(wrong, other)
		}
		for _, T := range append([]int{-2, least, least + 1, greatestT + 1, greatestT + 2, 1<<24 + 2, 1<<32 + 2}, edgeInts...) {
			add(func(other *impl.Params) { other.T = T })
		}
		for _, b := range append([]int{-16, 18, 256, 257, 272, 1<<32 + 1}, edgeInts...) {
			add(func(other *impl.Params) { other.Noise = b })
		}
		for _, n := range append(wrongSizes(), 256+2, 256+16, 1<<32+2) {
			add(func(other *impl.Params) { other.N = n })
		}
		for _, l := range append(wrongBases(p.Primes), slices.Concat(p.Primes, fittingPrimes(p.N, 5, -1))[:5], fittingPrimes(p.N, 5, 1), fittingPrimes(p.N, 6, 1)) {
			add(func(other *impl.Params) { other.Primes = l })
		}
		for i := range p.Primes {
			for _, prime := range []int{2, 3, 7, lastPrime, primeFor(p.N, impl.MaxPrime+1, 1), p.Primes[i] + twoTo32} {
				l := slices.Clone(p.Primes)
				l[i] = prime
				add(func(other *impl.Params) { other.Primes = l })
			}
		}
		for _, other := range wrong {
			if !isParams(other) {
				refusedWireParams(t, other)
				refusedBoxes(t, p, allKinds, func(b *impl.Box) { b.Params = other })
			}
		}
	}
}

func TestWrongPlainsOfBoxes(t *testing.T) {
	for _, p := range slices.Concat(wireParams(), fewParams()) {
		for _, m := range wrongPlains(p) {
			refusedBoxes(t, p, []int{impl.KindPlain}, func(b *impl.Box) { b.Plain = m })
		}
		for _, x := range []int{p.T, p.T - 1 + 1<<24, 1 << 24, 1 << 32, 1<<32 + 1} {
			for place := range p.N {
				refusedBoxes(t, p, []int{impl.KindPlain}, func(b *impl.Box) { b.Plain[place] = x })
			}
		}
	}
}

// Bytes that a secret is written as are none of its numbers.
func TestWrongSecretsOfBoxes(t *testing.T) {
	for _, p := range slices.Concat(wireParams(), fewParams()) {
		for _, s := range wrongSmall(p.N, 1) {
			refusedBoxes(t, p, []int{impl.KindSecret}, func(b *impl.Box) { b.Plain = s })
		}
		for _, x := range []int{2, -2, 254, 255, 256, 257, -255, -256, -257} {
			for place := range p.N {
				refusedBoxes(t, p, []int{impl.KindSecret}, func(b *impl.Box) { b.Plain[place] = x })
			}
		}
	}
}

func TestWrongCiphersOfBoxes(t *testing.T) {
	d := dice(1253)
	cipher := []int{impl.KindCipher}
	for _, p := range wireParams() {
		for _, count := range []int{0, 1, 4, 5, 6, 100, 258, 259} {
			c := d.cipher(p, count)
			refusedBoxes(t, p, cipher, func(b *impl.Box) { b.Cipher = c })
		}
		refusedBoxes(t, p, cipher, func(b *impl.Box) { b.Cipher.Parts = make([][][]int, len(b.Cipher.Parts)) })
		for i, wrong := range wrongRows(spaceOf(p), false) {
			refusedBoxes(t, p, cipher, func(b *impl.Box) { b.Cipher.Parts[i%len(b.Cipher.Parts)] = wrong.Rows })
		}
		for _, wrong := range fewWrongRows(p) {
			for place := range 3 {
				refusedBoxes(t, p, cipher, func(b *impl.Box) { b.Cipher.Parts[min(place, len(b.Cipher.Parts)-1)] = wrong })
			}
		}
	}
}

// Below 0, above q, or no good whole numbers; q itself is one.
func TestWrongBoundsOfBoxes(t *testing.T) {
	for _, p := range slices.Concat(wireParams(), fewParams()) {
		q := bigProduct(p.Primes)
		wrong := wrongBounds(p)
		for _, more := range []*big.Int{bigOf(1), bigOf(2), bigOf(impl.Limb), q, new(big.Int).Mul(q, bigOf(100))} {
			wrong = append(wrong, wholeFrom(new(big.Int).Add(q, more)))
		}
		for _, bound := range cipherBounds(p) {
			l := wholeFrom(bound).Limbs
			wrong = append(wrong, limbs(append(slices.Clone(l), 0)...), limbs(append(slices.Clone(l), 0, 0)...))
			if bound.Sign() > 0 {
				wrong = append(wrong, opposite(wholeFrom(bound)))
			}
		}
		for _, bound := range wrong {
			refusedBoxes(t, p, []int{impl.KindCipher}, func(b *impl.Box) { b.Bound = bound })
		}
		d := dice(1254)
		for _, bound := range cipherBounds(p) {
			for _, parts := range twoOrThree {
				b := d.box(p, impl.KindCipher, parts)
				b.Bound = wholeFrom(bound)
				if !checkBox(t, b) || !impl.GoodBox(b) {
					t.Errorf("%v: the bound %v is refused", p, bound)
				}
			}
		}
	}
}

func TestWrongPairsOfBoxes(t *testing.T) {
	d := dice(1255)
	public, keys := []int{impl.KindPublic}, []int{impl.KindPublic, impl.KindSwitch}
	for _, p := range wireParams() {
		for i, wrong := range wrongRows(spaceOf(p), false) {
			refusedBoxes(t, p, keys, func(b *impl.Box) { b.Pairs[i%len(b.Pairs)].A = wrong.Rows })
			refusedBoxes(t, p, keys, func(b *impl.Box) { b.Pairs[i%len(b.Pairs)].B = wrong.Rows })
		}
		for _, wrong := range fewWrongRows(p) {
			for place := range 4 {
				refusedBoxes(t, p, keys, func(b *impl.Box) { b.Pairs[min(place, len(b.Pairs)-1)].A = wrong })
				refusedBoxes(t, p, keys, func(b *impl.Box) { b.Pairs[min(place, len(b.Pairs)-1)].B = wrong })
			}
		}
		for count := range 7 {
			pairs := d.pairsOf(p, count)
			if count != 1 {
				refusedBoxes(t, p, public, func(b *impl.Box) { b.Pairs = pairs })
			}
			if count != len(p.Primes) {
				refusedBoxes(t, p, []int{impl.KindSwitch}, func(b *impl.Box) { b.Pairs = pairs })
			}
			refusedBoxes(t, p, keys, func(b *impl.Box) { b.Pairs = make([]impl.Pair, count) })
		}
	}
}

// What a Kind does not hold must be zero, however good it would be elsewhere.
func TestBoxesThatHoldMore(t *testing.T) {
	d := dice(1256)
	for _, p := range wireParams() {
		noPlain := kindsBut(impl.KindPlain, impl.KindSecret)
		for _, m := range [][]int{{0}, make([]int, p.N), d.plain(p), d.small(p.N, 1), make([]int, 1000), {-1}, {math.MaxInt}} {
			refusedBoxes(t, p, noPlain, func(b *impl.Box) { b.Plain = m })
		}
		noCipher := kindsBut(impl.KindCipher)
		for _, c := range []impl.Cipher{d.cipher(p, 2), d.cipher(p, 3), d.cipher(p, 1), {Parts: make([][][]int, 1)}, {Parts: make([][][]int, 2)}} {
			refusedBoxes(t, p, noCipher, func(b *impl.Box) { b.Cipher = c })
		}
		for _, bound := range append(wrongWholes(), impl.WholeOf(1), impl.WholeOf(-1), wholeFrom(bigProduct(p.Primes)), limbs(0)) {
			refusedBoxes(t, p, noCipher, func(b *impl.Box) { b.Bound = bound })
		}
		noPairs := kindsBut(impl.KindPublic, impl.KindSwitch)
		for _, pairs := range [][]impl.Pair{d.pairsOf(p, 1), d.pairsOf(p, len(p.Primes)), make([]impl.Pair, 1), make([]impl.Pair, len(p.Primes))} {
			refusedBoxes(t, p, noPairs, func(b *impl.Box) { b.Pairs = pairs })
		}
	}
}

// The empty list and the nil list are the same value.
func TestEmptyListsInBoxes(t *testing.T) {
	d := dice(1257)
	for _, p := range wireParams() {
		eachForm(func(kind int, parts int) {
			b := d.box(p, kind, parts)
			b.Bound = impl.Whole{Limbs: []int{}}
			want := wantBytes(b)
			if len(b.Plain) == 0 {
				b.Plain = []int{}
			}
			if len(b.Cipher.Parts) == 0 {
				b.Cipher.Parts = [][][]int{}
			}
			if len(b.Pairs) == 0 {
				b.Pairs = []impl.Pair{}
			}
			if told, ok := impl.WriteBox(b); !ok || !impl.GoodBox(b) || !bytes.Equal(told, want) {
				t.Errorf("%s is written as %s, %v", briefly(b), briefly(told), ok)
			}
		})
	}
}

func TestZeroAnswersOfBoxes(t *testing.T) {
	refusedBox(t, impl.Box{})
	for kind := -1; kind < 9; kind++ {
		refusedBox(t, impl.Box{Kind: kind})
		refusedBox(t, impl.Box{Kind: kind, Params: impl.Params{N: 2, T: 2, Noise: 1}})
		refusedBox(t, impl.Box{Kind: kind, Params: impl.Params{N: 2, T: 2, Noise: 1}, Cipher: impl.Cipher{Parts: make([][][]int, 2)}})
		refusedBox(t, impl.Box{Kind: kind, Pairs: make([]impl.Pair, 1)})
		for _, parts := range []int{0, 2, 3} {
			refusedSize(t, impl.Params{}, kind, parts)
		}
	}
	for _, b := range [][]byte{nil, {}} {
		if box, code := impl.ReadBox(b); code != impl.WireShort || !sameBox(box, impl.Box{}) {
			t.Errorf("ReadBox of nothing = %v, %d", box, code)
		}
	}
}

// All numbers at the edges of int, at once.
func TestBoxesAtAnyNumbers(t *testing.T) {
	few := []int{math.MinInt, -1, 0, 1, 2, 3, 16, 17, 97, 65536, impl.MaxPrime, twoTo32, math.MaxInt}
	for i, n := range few {
		for k, T := range few {
			for j, noise := range few {
				p := impl.Params{N: n, T: T, Noise: noise, Primes: []int{few[(i+k+j)%len(few)], 97}}
				b := impl.Box{Kind: few[(i+2*k)%len(few)], Params: p, Plain: []int{n, T}, Bound: limbs(noise), Pairs: []impl.Pair{{A: [][]int{{T}}}}}
				b.Cipher.Parts = [][][]int{{{n, noise}}, {{T, T}}}
				refusedBox(t, b)
				for _, kind := range allKinds {
					b.Kind = kind
					checkBox(t, b)
					checkBox(t, impl.Box{Kind: kind, Params: p, Plain: b.Plain})
					checkSize(t, p, kind, few[(3*i+j)%len(few)])
				}
			}
		}
	}
}

// Lists that are far too long are told as what they are.
func TestLongListsAndBytes(t *testing.T) {
	p := wireParams()[2]
	long := make([]int, 200000)
	for _, kind := range allKinds {
		refusedBox(t, impl.Box{Kind: kind, Params: p, Plain: long})
		refusedBox(t, impl.Box{Kind: kind, Params: impl.Params{N: 2, T: 2, Noise: 1, Primes: long}})
		refusedBox(t, impl.Box{Kind: kind, Params: p, Cipher: impl.Cipher{Parts: make([][][]int, 20000)}})
		refusedBox(t, impl.Box{Kind: kind, Params: p, Pairs: make([]impl.Pair, 20000)})
		refusedBox(t, impl.Box{Kind: kind, Params: p, Cipher: noughtBox(p, impl.KindCipher, 2).Cipher, Bound: limbs(long...)})
	}
	eachForm(func(kind int, parts int) {
		good := wantBytes(noughtBox(p, kind, parts))
		mustRead(t, "a million bytes more", append(good, make([]byte, 1000000)...), impl.WireLong)
	})
	mustRead(t, "a million noughts", make([]byte, 1000000), impl.WireMark)
	mustRead(t, "a million of the greatest", bytes.Repeat([]byte{255}, 1000000), impl.WireMark)
	mustRead(t, "a mark a million times", bytes.Repeat([]byte("BFV1"), 250000), impl.WireKind)
	for kind := byte(1); kind <= 6; kind++ {
		head := []byte{66, 70, 86, 49, kind}
		mustRead(t, "the greatest of all", append(head, bytes.Repeat([]byte{255}, 2000)...), impl.WireParams)
		mustRead(t, "ones alone", append(head, bytes.Repeat([]byte{1}, 2000)...), impl.WireParams)
	}
}

// What lies behind a length is no more of the list, however good it would be.
func TestBoxesBehindTheLengthAreNotTaken(t *testing.T) {
	d := dice(1258)
	for _, p := range wireParams() {
		last := len(p.Primes) - 1
		for _, cut := range []struct {
			kinds []int
			do    func(b *impl.Box)
		}{
			{[]int{impl.KindPlain, impl.KindSecret}, func(b *impl.Box) { b.Plain = b.Plain[:p.N-1] }},
			{[]int{impl.KindCipher}, func(b *impl.Box) { b.Cipher.Parts = b.Cipher.Parts[:1] }},
			{[]int{impl.KindCipher}, func(b *impl.Box) { b.Cipher.Parts[1] = b.Cipher.Parts[1][:last] }},
			{[]int{impl.KindCipher}, func(b *impl.Box) { b.Cipher.Parts[1][last] = b.Cipher.Parts[1][last][:p.N-1] }},
			{[]int{impl.KindCipher}, func(b *impl.Box) { b.Bound.Limbs = []int{1, 0, 1}[:2] }},
			{[]int{impl.KindPublic, impl.KindSwitch}, func(b *impl.Box) { b.Pairs = b.Pairs[:len(b.Pairs)-1] }},
			{[]int{impl.KindPublic, impl.KindSwitch}, func(b *impl.Box) { b.Pairs[0].A = b.Pairs[0].A[:last] }},
			{[]int{impl.KindPublic, impl.KindSwitch}, func(b *impl.Box) { b.Pairs[0].B[last] = b.Pairs[0].B[last][:p.N-1] }},
			{[]int{impl.KindCipher, impl.KindPublic, impl.KindSwitch}, func(b *impl.Box) { b.Params.Primes = slices.Clone(p.Primes)[:last] }},
		} {
			refusedBoxes(t, p, cut.kinds, cut.do)
		}
		// a cipher of two Parts with a third one behind them
		b := d.box(p, impl.KindCipher, 3)
		b.Cipher.Parts = b.Cipher.Parts[:2]
		if told, ok := impl.WriteBox(b); !ok || !bytes.Equal(told, wantBytes(b)) {
			t.Errorf("%s is written as %s, %v", briefly(b), briefly(told), ok)
		}
		b.Bound.Limbs = []int{1, 2, 3}[:0]
		if told, ok := impl.WriteBox(b); !ok || !bytes.Equal(told, wantBytes(b)) {
			t.Errorf("%s is written as %s, %v", briefly(b), briefly(told), ok)
		}
	}
}

// One list in several places is only read.
func TestBoxesOfListsThatShareMemory(t *testing.T) {
	for _, n := range ringSizes {
		p := impl.Params{N: n, T: 2, Noise: 3, Primes: fittingPrimes(n, 3, -1)}
		memory := slices.Repeat([]int{1, 0, 1, 1}, 20)
		before, primes := slices.Clone(memory), slices.Clone(p.Primes)
		row := memory[:n]
		rows := [][]int{row, memory[1 : n+1], row}
		eachForm(func(kind int, parts int) {
			b := filledBox(p, kind, parts, rows, row, limbs(memory[:1]...))
			told, ok := impl.WriteBox(b)
			if !ok || !impl.GoodBox(b) || !bytes.Equal(told, wantBytes(b)) {
				t.Errorf("%s is written as %s, %v", briefly(b), briefly(told), ok)
			}
			if !slices.Equal(memory, before) || !slices.Equal(p.Primes, primes) || !sameMemory(rows[0], row) || !sameMemory(rows[2], row) {
				t.Fatalf("WriteBox changes the lists of %s", briefly(b))
			}
			// what is read of it has a list for each place
			if checkBytes(t, told) != impl.WireOk {
				t.Errorf("%s is not read", briefly(told))
			}
		})
	}
}

// No call changes what the next one tells, and what was told before stays.
func TestAnswersOfBoxesAreNewMemory(t *testing.T) {
	d := dice(1259)
	for _, p := range wireParams() {
		eachForm(func(kind int, parts int) {
			b := d.box(p, kind, parts)
			one := askBytes(t, b)
			read := askBox(t, one)
			clear(one)
			if !sameBox(read, b) {
				t.Errorf("%s changes with the bytes it was read of", briefly(read))
			}
			two := askBytes(t, b)
			scribble(listsOfBox(read), -77)
			if !bytes.Equal(two, wantBytes(b)) || !sameBox(askBox(t, two), b) || !bytes.Equal(askBytes(t, b), two) {
				t.Errorf("%s is told in another way the second time", briefly(b))
			}
		})
	}
}

// Beside a code that is not WireOk the box is zero, at whichever place the reading ends.
func TestTheBoxBesideAFaultIsZero(t *testing.T) {
	d := dice(1260)
	for _, p := range wireParams() {
		eachForm(func(kind int, parts int) {
			good := wantBytes(d.box(p, kind, parts))
			wrong := [][]byte{append(slices.Clone(good), 0), with(good, 0, 0), with(good, 4, 0), with(good, 4, 7), with(good, 5, 3)}
			for size := 0; size < len(good); size += 1 + len(good)/50 {
				wrong = append(wrong, good[:size])
			}
			if kind != impl.KindParams {
				wrong = append(wrong, with(good, lastNumber(p, kind, boundlessSize(p, kind, parts)), 254))
			}
			for _, b := range wrong {
				if box, code := impl.ReadBox(b); code == impl.WireOk || !sameBox(box, impl.Box{}) {
					t.Errorf("ReadBox of %s = %s, %d", briefly(b), briefly(box), code)
				}
			}
		})
	}
}

// boundlessSize is where a box ends whose Bound is 0.
func boundlessSize(p impl.Params, kind int, parts int) int {
	size, _ := wantSize(p, kind, parts)
	return size
}
