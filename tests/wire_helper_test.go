package tests

import (
	"bytes"
	"encoding/binary"
	"encoding/hex"
	"fmt"
	"math/big"
	"slices"
	"testing"

	"loop.example/g00133/impl"
)

// allKinds are all that there are, in the order of their numbers.
var allKinds = []int{impl.KindParams, impl.KindPlain, impl.KindCipher, impl.KindSecret, impl.KindPublic, impl.KindSwitch}

// primesFrom is where the primes begin in a box's bytes; partsFrom lies behind them.
const primesFrom = 11

func partsFrom(p impl.Params) int {
	return primesFrom + 4*len(p.Primes)
}

// rowsSize is how many bytes rows take.
func rowsSize(p impl.Params) int {
	return 4 * p.N * len(p.Primes)
}

// boundFrom is where the Bound begins in the bytes of a cipher.
func boundFrom(p impl.Params, parts int) int {
	return partsFrom(p) + 1 + parts*rowsSize(p)
}

// briefly is the beginning of what is told, since most boxes and bytes are long.
func briefly(what any) string {
	return fmt.Sprintf("%.600s", fmt.Sprintf("%+v", what))
}

func sameParams(a impl.Params, b impl.Params) bool {
	return a.N == b.N && a.T == b.T && a.Noise == b.Noise && slices.Equal(a.Primes, b.Primes)
}

func sameBox(a impl.Box, b impl.Box) bool {
	return a.Kind == b.Kind && sameParams(a.Params, b.Params) && slices.Equal(a.Plain, b.Plain) && sameCipher(a.Cipher, b.Cipher) &&
		sameWhole(a.Bound, b.Bound) && slices.EqualFunc(a.Pairs, b.Pairs, samePair)
}

// isBox takes away what the Kind holds, and asks whether nothing is left.
func isBox(b impl.Box) bool {
	p, rest, good := b.Params, b, true
	switch b.Kind {
	case 1:
	case 2:
		good, rest.Plain = arePlain(b.Plain, p.N, p.T), nil
	case 3:
		good = isOfParts(p, b.Cipher, twoOrThree) && isFromNought(b.Bound) && bigFrom(b.Bound).Cmp(bigProduct(p.Primes)) <= 0
		rest.Cipher, rest.Bound = impl.Cipher{}, impl.Whole{}
	case 4:
		good, rest.Plain = areSmall(b.Plain, p.N, 1), nil
	case 5:
		good, rest.Pairs = arePairs(p, b.Pairs, 1), nil
	case 6:
		good, rest.Pairs = arePairs(p, b.Pairs, len(p.Primes)), nil
	default:
		return false
	}
	// params last, since primes take longest
	return good && sameBox(rest, impl.Box{Kind: b.Kind, Params: p}) && isParams(p)
}

// hexOf writes numbers one behind the other, in one form.
func hexOf(form string, numbers ...int) string {
	text := ""
	for _, x := range numbers {
		text += fmt.Sprintf(form, x)
	}
	return text
}

func hexRows(rows [][]int) string {
	return hexOf("%08x", slices.Concat(rows...)...)
}

// wantBytes are those of a good box, told by a text of hexadecimal digits.
func wantBytes(b impl.Box) []byte {
	p := b.Params
	text := "42465631" + hexOf("%02x", b.Kind, p.N, p.Noise, len(p.Primes)) + hexOf("%06x", p.T) + hexOf("%08x", p.Primes...)
	switch b.Kind {
	case 2:
		text += hexOf("%06x", b.Plain...)
	case 3:
		text += hexOf("%02x", len(b.Cipher.Parts))
		for _, part := range b.Cipher.Parts {
			text += hexRows(part)
		}
		text += hexOf("%02x", len(b.Bound.Limbs)) + hexOf("%08x", b.Bound.Limbs...)
	case 4:
		for _, x := range b.Plain {
			text += map[int]string{0: "00", 1: "01", -1: "ff"}[x]
		}
	}
	for _, pair := range b.Pairs {
		text += hexRows(pair.A) + hexRows(pair.B)
	}
	told, err := hex.DecodeString(text)
	if err != nil {
		panic(err)
	}
	return told
}

// fourByFour reads so many numbers of four bytes.
func fourByFour(b []byte, count int) []int {
	var numbers []int
	for i := range count {
		numbers = append(numbers, int(binary.BigEndian.Uint32(b[4*i:])))
	}
	return numbers
}

// threeByThree reads so many numbers of three bytes.
func threeByThree(b []byte, count int) []int {
	var numbers []int
	for i := range count {
		numbers = append(numbers, int(b[3*i])*65536+int(b[3*i+1])*256+int(b[3*i+2]))
	}
	return numbers
}

func readRows(p impl.Params, b []byte) [][]int {
	var rows [][]int
	for i := range p.Primes {
		rows = append(rows, fourByFour(b[4*p.N*i:], p.N))
	}
	return rows
}

// neededFor is how many bytes come behind the params, as far as these bytes tell; 0 of a cipher without a number of parts that may be.
func neededFor(p impl.Params, kind int, b []byte) int {
	switch kind {
	case 2:
		return 3 * p.N
	case 3:
		if len(b) == 0 {
			return 1
		}
		if b[0] != 2 && b[0] != 3 {
			return 0
		}
		need := 1 + int(b[0])*rowsSize(p) + 1
		if len(b) >= need {
			need += 4 * int(b[need-1])
		}
		return need
	case 4:
		return p.N
	case 5:
		return 2 * rowsSize(p)
	case 6:
		return len(p.Primes) * 2 * rowsSize(p)
	}
	return 0
}

// signOf is one that is none of a secret, of any byte but three.
func signOf(x byte) int {
	switch x {
	case 0, 1:
		return int(x)
	case 255:
		return -1
	}
	return 77
}

// heldIn is the box of bytes that are all there, good or not.
func heldIn(p impl.Params, kind int, b []byte) impl.Box {
	box := impl.Box{Kind: kind, Params: p}
	size := rowsSize(p)
	switch kind {
	case 2:
		box.Plain = threeByThree(b, p.N)
	case 3:
		count := int(b[0])
		for i := range count {
			box.Cipher.Parts = append(box.Cipher.Parts, readRows(p, b[1+i*size:]))
		}
		box.Bound.Limbs = fourByFour(b[2+count*size:], int(b[1+count*size]))
	case 4:
		for _, x := range b[:p.N] {
			box.Plain = append(box.Plain, signOf(x))
		}
	case 5, 6:
		for i := range map[int]int{5: 1, 6: len(p.Primes)}[kind] {
			box.Pairs = append(box.Pairs, impl.Pair{A: readRows(p, b[2*i*size:]), B: readRows(p, b[(2*i+1)*size:])})
		}
	}
	return box
}

// wantRead goes through the codes in the chapter's order.
func wantRead(b []byte) (impl.Box, int) {
	switch {
	case len(b) < 5:
		return impl.Box{}, 1
	case !bytes.Equal(b[:4], []byte{66, 70, 86, 49}):
		return impl.Box{}, 2
	case b[4] < 1 || b[4] > 6:
		return impl.Box{}, 3
	case len(b) < primesFrom || len(b) < primesFrom+4*int(b[7]):
		return impl.Box{}, 1
	}
	kind, p := int(b[4]), impl.Params{N: int(b[5]), Noise: int(b[6]), T: threeByThree(b[8:], 1)[0], Primes: fourByFour(b[primesFrom:], int(b[7]))}
	if !isParams(p) {
		return impl.Box{}, 4
	}
	left := b[partsFrom(p):]
	need := neededFor(p, kind, left)
	switch {
	case len(left) < need:
		return impl.Box{}, 1
	case kind == 3 && need == 0 || !isBox(heldIn(p, kind, left)):
		return impl.Box{}, 5
	case len(left) > need:
		return impl.Box{}, 6
	}
	return heldIn(p, kind, left), 0
}

// wantSize counts the bytes of a box of noughts.
func wantSize(p impl.Params, kind int, parts int) (int, bool) {
	mayBe := parts == 0
	if kind == 3 {
		mayBe = parts == 2 || parts == 3
	}
	if !mayBe || kind < 1 || kind > 6 || !isParams(p) {
		return 0, false
	}
	return len(wantBytes(noughtBox(p, kind, parts))), true
}

// noughtBox has noughts alone, and as many as there should be.
func noughtBox(p impl.Params, kind int, parts int) impl.Box {
	return filledBox(p, kind, parts, leftRows(p, make([]int, p.N)), make([]int, p.N), impl.Whole{})
}

// filledBox holds, by its Kind, these rows in every place, this plain or this bound.
func filledBox(p impl.Params, kind int, parts int, rows [][]int, plain []int, bound impl.Whole) impl.Box {
	box := impl.Box{Kind: kind, Params: p}
	pair := impl.Pair{A: rows, B: rows}
	switch kind {
	case 2, 4:
		box.Plain = plain
	case 3:
		box.Cipher, box.Bound = impl.Cipher{Parts: slices.Repeat([][][]int{rows}, parts)}, bound
	case 5:
		box.Pairs = []impl.Pair{pair}
	case 6:
		box.Pairs = slices.Repeat([]impl.Pair{pair}, len(p.Primes))
	}
	return box
}

// partsOfKind are the numbers of parts that SizeOf takes for a Kind.
func partsOfKind(kind int) []int {
	if kind == impl.KindCipher {
		return twoOrThree
	}
	return []int{0}
}

// eachForm goes through all Kinds, ciphers with each number of parts.
func eachForm(do func(kind int, parts int)) {
	for _, kind := range allKinds {
		for _, parts := range partsOfKind(kind) {
			do(kind, parts)
		}
	}
}

// box is any good one.
func (d *dice) box(p impl.Params, kind int, parts int) impl.Box {
	box := impl.Box{Kind: kind, Params: p}
	switch kind {
	case 2:
		box.Plain = d.plain(p)
	case 3:
		bounds := cipherBounds(p)
		box.Cipher, box.Bound = d.cipher(p, parts), wholeFrom(bounds[d.below(len(bounds))])
	case 4:
		box.Plain = d.small(p.N, 1)
	case 5:
		box.Pairs = d.pairsOf(p, 1)
	case 6:
		box.Pairs = d.pairsOf(p, len(p.Primes))
	}
	return box
}

// cipherBounds: 0, 1, at and beside each limb, the middle of q, and q, as far as they are at most q.
func cipherBounds(p impl.Params) []*big.Int {
	q := bigProduct(p.Primes)
	bounds := []*big.Int{bigOf(0), bigOf(1), bigOf(2), new(big.Int).Rsh(q, 1), new(big.Int).Sub(q, bigOf(1)), q}
	for _, bits := range []int{8, 16, 24, 27, 28, 56, 84} {
		for near := -1; near <= 1; near++ {
			bounds = append(bounds, new(big.Int).Add(powerOfTwo(bits), bigOf(near)))
		}
	}
	return slices.DeleteFunc(bounds, func(b *big.Int) bool { return b.Cmp(q) > 0 })
}

// edgeBoxes are good: plains, secrets, rows and bounds at their edges, of one Kind.
func edgeBoxes(p impl.Params, kind int, parts int) []impl.Box {
	var boxes []impl.Box
	add := func(rows [][]int, plain []int, bound impl.Whole) {
		boxes = append(boxes, filledBox(p, kind, parts, rows, plain, bound))
	}
	nothing := leftRows(p, make([]int, p.N))
	switch kind {
	case impl.KindParams:
		add(nil, nil, impl.Whole{})
	case impl.KindPlain:
		for _, m := range edgePlains(p) {
			add(nil, m, impl.Whole{})
		}
	case impl.KindSecret:
		for _, s := range edgeSmall(p.N, 1) {
			add(nil, s, impl.Whole{})
		}
	case impl.KindCipher:
		for _, b := range cipherBounds(p) {
			add(nothing, nil, wholeFrom(b))
		}
		fallthrough
	default:
		for _, rows := range edgeRows(spaceOf(p), false) {
			add(rows.Rows, nil, impl.Whole{})
		}
	}
	return boxes
}

// wireParams are the edges that the chapter names: N of 2 and of 16, one prime and four, T of 2 and the greatest, Noise of 1 and of 16.
func wireParams() []impl.Params {
	var all []impl.Params
	for i, n := range []int{2, impl.MaxN} {
		small, great := fittingPrimes(n, impl.MaxRow, 1), fittingPrimes(n, impl.MaxRow, -1)
		all = append(all,
			impl.Params{N: n, T: 2, Noise: 1, Primes: small[:1]},
			impl.Params{N: n, T: greatestT, Noise: impl.MaxNoise, Primes: great[:1]},
			impl.Params{N: n, T: mostT(small), Noise: []int{impl.MaxNoise, 1}[i], Primes: backward(small)},
			impl.Params{N: n, T: greatestT, Noise: []int{1, impl.MaxNoise}[i], Primes: append(slices.Clone(great[:3]), 65537)})
	}
	return all
}

// listsOfBox are all lists of numbers of a box.
func listsOfBox(b impl.Box) [][]int {
	lists := [][]int{b.Params.Primes, b.Plain, b.Bound.Limbs}
	lists = append(lists, slices.Concat(b.Cipher.Parts...)...)
	for _, pair := range b.Pairs {
		lists = slices.Concat(lists, pair.A, pair.B)
	}
	return lists
}

// outerOfBox are all lists of rows of a box, also behind their length.
func outerOfBox(b impl.Box) [][][]int {
	var outer [][][]int
	for _, part := range b.Cipher.Parts {
		outer = append(outer, part[:cap(part)])
	}
	for _, pair := range b.Pairs {
		outer = append(outer, pair.A[:cap(pair.A)], pair.B[:cap(pair.B)])
	}
	return outer
}

// checkBox asks GoodBox and WriteBox, and looks after the memory of what they are given; it tells whether the box is good.
func checkBox(t *testing.T, b impl.Box) bool {
	t.Helper()
	failed, good := t.Failed(), isBox(b)
	var want []byte
	if good {
		want = wantBytes(b)
	}
	x := cipherArgs{p: b.Params, m: b.Plain, a: b.Cipher, pairs: b.Pairs}
	if good {
		// what lies behind a list's length would be good there
		nothing := noughtBox(b.Params, impl.KindPublic, 0)
		x.k = nothing.Pairs[0]
	}
	checkMemory(t, "WriteBox", append([][]int{b.Bound.Limbs}, x.listsOf()...), func(laid [][]int) [][]int {
		given := x.withLists(laid[1:])
		box := impl.Box{Kind: b.Kind, Params: given.p, Plain: given.m, Cipher: given.a, Bound: impl.Whole{Neg: b.Bound.Neg, Limbs: laid[0]}, Pairs: given.pairs}
		rows, all := given.outer()
		if got := impl.GoodBox(box); got != good {
			t.Errorf("GoodBox is %v", got)
		}
		told, ok := impl.WriteBox(box)
		if ok != good || !bytes.Equal(told, want) {
			t.Errorf("WriteBox = %s, %v, want %s, %v", briefly(told), ok, briefly(want), good)
		}
		again, _ := impl.WriteBox(box)
		clear(told[:cap(told)])
		if !bytes.Equal(again, want) {
			t.Errorf("WriteBox tells the same memory twice")
		}
		rowsNow, allNow := given.outer()
		if !slices.EqualFunc(rowsNow, rows, sameMemory) || !slices.EqualFunc(allNow, all, samePlace) {
			t.Errorf("WriteBox writes into a list of lists")
		}
		return nil
	})
	// told only once: what most calls are given is long
	if t.Failed() && !failed {
		t.Errorf("the box was %s", briefly(b))
	}
	return good
}

// refusedBox must not be good, whatever the second reckoning says.
func refusedBox(t *testing.T, b impl.Box) {
	t.Helper()
	mustAnswer(t, "WriteBox", func() {
		told, ok := impl.WriteBox(b)
		if impl.GoodBox(b) || ok || len(told) > 0 {
			t.Errorf("%s is written as %s, %v", briefly(b), briefly(told), ok)
		}
	})
	if checkBox(t, b) {
		t.Errorf("%s is a box", briefly(b))
	}
}

// checkBytes asks ReadBox for the code and the box, WriteBox for the very bytes where they are read, and looks after memory; behind lies behind the bytes' length. It tells the code.
func checkBytes(t *testing.T, b []byte, behind ...byte) int {
	t.Helper()
	want, code := wantRead(b)
	memory := slices.Concat(b, behind)
	before := slices.Clone(memory)
	mustAnswer(t, "ReadBox", func() {
		box, got := impl.ReadBox(memory[:len(b)])
		if got != code || !sameBox(box, want) {
			t.Fatalf("ReadBox of %s = %s, %d, want %s, %d", briefly(b), briefly(box), got, briefly(want), code)
		}
		if got != impl.WireOk && !sameBox(box, impl.Box{}) {
			t.Errorf("ReadBox tells %d beside %s", got, briefly(box))
		}
		written, ok := impl.WriteBox(box)
		if ok != (got == impl.WireOk) || ok && !bytes.Equal(written, b) {
			t.Errorf("what is read of %s is written as %s, %v", briefly(b), briefly(written), ok)
		}
		again, _ := impl.ReadBox(memory[:len(b)])
		lists := listsOfBox(box)
		if !apart(append(lists, listsOfBox(again)...)) || !outerApart(append(outerOfBox(box), outerOfBox(again)...)) {
			t.Errorf("ReadBox of %s tells lists that share memory", briefly(b))
		}
		if !bytes.Equal(memory, before) {
			t.Errorf("ReadBox writes into %s", briefly(b))
		}
	})
	return code
}

// mustRead asks for one code, whatever the second reckoning says.
func mustRead(t *testing.T, what string, b []byte, code int) {
	t.Helper()
	mustAnswer(t, what, func() {
		if box, got := impl.ReadBox(b); got != code {
			t.Errorf("%s: ReadBox of %s = %s, %d, want %d", what, briefly(b), briefly(box), got, code)
		}
	})
	checkBytes(t, b)
}

// askBytes makes a call of WriteBox that must be told true.
func askBytes(t *testing.T, b impl.Box) []byte {
	t.Helper()
	told, ok := impl.WriteBox(b)
	if !ok {
		t.Fatalf("WriteBox of %s is refused", briefly(b))
	}
	return told
}

// askBox makes a call of ReadBox that must be told WireOk.
func askBox(t *testing.T, b []byte) impl.Box {
	t.Helper()
	box, code := impl.ReadBox(b)
	if code != impl.WireOk {
		t.Fatalf("ReadBox of %s = %d", briefly(b), code)
	}
	return box
}

func checkSize(t *testing.T, p impl.Params, kind int, parts int) {
	t.Helper()
	want, good := wantSize(p, kind, parts)
	checkMemory(t, "SizeOf", [][]int{p.Primes}, func(laid [][]int) [][]int {
		given := p
		given.Primes = laid[0]
		if got, ok := impl.SizeOf(given, kind, parts); got != want || ok != good {
			t.Errorf("SizeOf(%s, %d, %d) = %d, %v, want %d, %v", briefly(p), kind, parts, got, ok, want, good)
		}
		return nil
	})
}

// with is these bytes with others from a place on.
func with(b []byte, place int, others ...byte) []byte {
	changed := slices.Clone(b)
	copy(changed[place:], others)
	return changed
}

// four is a number in four bytes.
func four(x int) []byte {
	return binary.BigEndian.AppendUint32(nil, uint32(x))
}

// three is a number in three bytes.
func three(x int) []byte {
	return four(x)[1:]
}
