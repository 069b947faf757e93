package tests

import (
	"fmt"
	"math/big"
	"slices"
	"strconv"
	"strings"
	"testing"

	"loop.example/g00133/impl"
)

// Promise 13: the engine tells what the model tells.

// counts says how often lines of each command were answered in each way, so that no test goes by without having asked.
func (y tally) counts(text string, answers []string) {
	for i, line := range strings.Split(strings.TrimSuffix(text, "\n"), "\n") {
		answer := answers[i]
		if answer != "ok" && answer != "spent" && !slices.Contains(refusals, answer) {
			answer = "told"
		}
		y[answer]++
		if word, _, _ := strings.Cut(line, " "); slices.Contains(allCommands, word) {
			y[word+" "+answer]++
		}
	}
}

// changing are the commands that are answered ok, but those that begin anew.
var changing = []string{"turn", "set", "add", "neg", "plus", "times", "mul", "rot", "drop"}

var allCommands = append([]string{"params", "keys", "get", "room", "depth"}, changing...)

func TestDrawnScripts(t *testing.T) {
	t.Parallel()
	d, asked := dice(1301), tally{}
	for _, p := range slices.Concat(engineParams(), tightParams()) {
		w := scribe{dice: &d, p: p, letters: 5}
		for range 3 {
			text := w.scriptOf(4, slices.Concat(w.begun(), w.firstNames())...)
			asked.counts(text, checkScript(t, d.coins(impl.MaxWords), text))
		}
	}
	for _, word := range changing {
		asked.atLeast(t, 20, word+" ok")
	}
	asked.atLeast(t, 100, "get told", "get spent", "get none", "room told", "what", "none")
	asked.atLeast(t, 20, "params ok", "keys ok", "depth told", "bad")
}

// Scripts of which nearly nothing is as it should be.
func TestDrawnScriptsOfManyFaults(t *testing.T) {
	d, asked := dice(1302), tally{}
	for i, p := range slices.Concat(engineParams(), tightParams()) {
		w := scribe{dice: &d, p: p, letters: 3}
		first := w.begun()[:i%6%5]
		text := w.scriptOf(50, first...)
		asked.counts(text, checkScript(t, d.coins(500+d.below(1500)), text))
		text = w.scriptOf(20)
		asked.counts(text, checkScript(t, d.coins(500+d.below(1500)), text))
	}
	asked.atLeast(t, 50, "what", "none", "bad", "nokey", "set nokey", "ok", "told")
	asked.atLeast(t, 3, "turn nokey", "rot nokey", "turn bad", "set bad", "plus bad", "times bad", "rot bad")
}

// As many names as there may be, and letters that go beyond them.
func TestDrawnScriptsOfManyNames(t *testing.T) {
	t.Parallel()
	d, asked := dice(1303), tally{}
	for _, p := range engineParams() {
		if p.N > 4 {
			continue
		}
		w := scribe{dice: &d, p: p, letters: 26}
		first := []string{paramsLine(p), "keys", "turn 3"}
		for i := range 18 {
			first = append(first, "set "+alphabet[i:i+1]+" "+w.plainText())
		}
		for range 3 {
			text := w.scriptOf(2, first...)
			answers, k := checkRuns(t, d.coins(impl.MaxWords), text)
			asked.counts(text, answers)
			for range 4 {
				checkKept(t, text, w.name(), k)
			}
		}
	}
	asked.atLeast(t, 1, "set full", "add full", "neg full", "plus full", "times full", "mul full", "rot full")
}

// All commands once, in many orders.
func TestEveryOrderOfCommands(t *testing.T) {
	t.Parallel()
	d, asked := dice(1304), tally{}
	all := []string{"keys", "turn 3", "set a 3 4", "set b 5 16", "add a b c", "add c a b", "neg d a", "plus e b 1 2", "times f a 2 16", "mul g a b", "mul a a a", "rot h a 3", "get a", "get g", "get h", "get c", "room a", "room g", "drop a", "depth"}
	for i := range 300 {
		words := d.coins(d.below(300))
		lines := []string{exampleLine}
		if i%2 == 0 {
			lines = append(lines, all[0], all[1], all[2], all[3])
		}
		for len(lines) < 60 {
			lines = append(lines, all[d.below(len(all))])
		}
		text := script(lines...)
		answers, _ := checkRuns(t, words, text)
		asked.counts(text, answers)
	}
	for _, word := range changing {
		asked.atLeast(t, 20, word+" ok")
	}
	asked.atLeast(t, 100, "get told", "set dry", "turn dry", "keys dry")
}

// With every number of words from none on: both take as many, and each dry line takes none.
func TestEveryNumberOfCoins(t *testing.T) {
	t.Parallel()
	d, asked := dice(1305), tally{}
	for i, p := range []impl.Params{exampleParams, {N: 4, T: 3, Noise: 2, Primes: fittingPrimes(4, 1, -1)}, {N: 2, T: 5, Noise: impl.MaxNoise, Primes: fittingPrimes(2, 3, -1)}} {
		w := scribe{dice: &d, p: p, letters: 3}
		lines := []string{paramsLine(p), "keys", "turn 3", "set a " + w.plainText(), "turn 1", "set b " + w.plainText(), "mul c a b", "rot d a 3", "get c", "get d", "get b", "keys", "set a " + w.plainText(), "get a", "turn 3", "rot b a 3", "get b"}
		// words of which some are passed over, by a prime or by 3
		words := [][]int{d.coins(200), d.wordsFor(p.Primes[0], 250), d.wordsFor(3, 250)}[i]
		for count := range len(words) + 1 {
			text := script(lines...)
			answers, k := checkRuns(t, words[:count], text)
			asked.counts(text, answers)
			for _, name := range []string{"a", "d"} {
				checkKept(t, text, name, k)
			}
		}
	}
	asked.atLeast(t, 50, "keys dry", "turn dry", "set dry", "keys ok", "turn ok", "set ok")
}

// As many words as are taken, of which none is passed over, and fewer, beside each place where a line ends.
func TestJustEnoughCoins(t *testing.T) {
	d := dice(1306)
	for _, p := range engineParams() {
		words := d.coins(keysCost(p) + turnCost(p) + 2*setCost(p))
		for i := range words {
			words[i] %= 1 << 31
		}
		w := scribe{dice: &d, p: p, letters: 1}
		mustTell(t, words, []string{paramsLine(p), "keys", "turn 3", "set a " + w.plainText(), "set b " + w.plainText(), "set c " + w.plainText()},
			"ok", "ok", "ok", "ok", "ok", "dry")
		lines := []string{paramsLine(p), "keys", "turn 3", "set a " + w.plainText(), "set b " + w.plainText()}
		for i, end := range []int{keysCost(p), keysCost(p) + turnCost(p), keysCost(p) + turnCost(p) + setCost(p), len(words)} {
			line := []string{"ok", "dry"}
			for lack, want := range line {
				if got := checkScript(t, words[:end-lack], script(lines[:i+2]...)); got[i+1] != want {
					t.Errorf("%v: %q with %d words less is answered %q", p, lines[i+1], lack, got[i+1])
				}
			}
		}
	}
}

// A line that is dry takes none: so a smaller one behind it is still enough.
func TestADryLineTakesNoCoins(t *testing.T) {
	p, d := exampleParams, dice(1307)
	words := d.coins(keysCost(p) + setCost(p))
	mustTell(t, words, []string{exampleLine, "keys", "turn 3", "keys", "set a 3 4", "set b 1 1", "get a", "rot a a 3"},
		"ok", "ok", "dry", "dry", "ok", "dry", "3 4", "nokey")
	// one more than a key of a turn takes, after which no cipher is left
	words = d.coins(keysCost(p) + turnCost(p) + setCost(p) - 1)
	mustTell(t, words, []string{exampleLine, "keys", "turn 3", "set a 3 4", "turn 3", "get a"}, "ok", "ok", "ok", "dry", "dry", "none")
	mustTell(t, words, []string{exampleLine, "keys", "set a 3 4", "turn 3", "set b 1 1", "get a", "get b"}, "ok", "ok", "ok", "dry", "ok", "3 4", "1 1")
}

// Squares until both tell that it is spent, at the same line; up to there depth says how often.
func TestSpentAtTheSameLine(t *testing.T) {
	t.Parallel()
	d, deep := dice(1308), 0
	for _, p := range slices.Concat(engineParams(), tightParams()) {
		w := scribe{dice: &d, p: p, letters: 1}
		lines := []string{paramsLine(p), "keys", "depth", "set a " + w.plainText(), "get a"}
		for range 20 {
			lines = append(lines, "mul a a a", "get a")
		}
		answers, _ := checkRuns(t, d.coins(impl.MaxWords), script(lines...))
		depth, err := strconv.Atoi(answers[2])
		if err != nil {
			t.Fatalf("%v: a depth of %q", p, answers[2])
		}
		told := slices.Index(answers, "spent")
		fresh := 4
		if wantDepth := max(0, (told-fresh)/2-1); told >= 0 && depth != wantDepth || told < 0 && depth != 20 {
			t.Errorf("%v: spent at %d, and a depth of %d: %v", p, told, depth, answers)
		}
		for i := told + 2; told > 0 && i < len(answers); i += 2 {
			if answers[i] != "spent" {
				t.Errorf("%v: %q behind what is spent", p, answers[i])
			}
		}
		deep = max(deep, depth)
	}
	if deep < 5 {
		t.Errorf("the deepest is %d", deep)
	}
}

// A bound that is just the limit is spent, and one below it is not.
func TestSpentJustAtTheLimit(t *testing.T) {
	asked := tally{}
	d := dice(1309)
	for _, n := range ringSizes {
		for prime := primeFor(n, 2*n+1, 1); prime < 4000*n; prime = primeFor(n, prime+2*n, 1) {
			for T := 2; T < min(prime, 6); T++ {
				for noise := 1; noise < 5; noise++ {
					askAtTheLimit(t, &d, impl.Params{N: n, T: T, Noise: noise, Primes: []int{prime}}, asked)
				}
			}
		}
	}
	asked.atLeast(t, 3, "told", "spent")
}

// askAtTheLimit runs a script where so many fresh ones together come to the limit, or to the one below it.
func askAtTheLimit(t *testing.T, d *dice, p impl.Params, asked tally) {
	t.Helper()
	for times := 1; times <= 4; times++ {
		bound, limit := new(big.Int).Mul(freshBound(p), bigOf(times)), limitOf(p)
		want := ""
		switch off := new(big.Int).Sub(bound, limit); {
		case off.Sign() == 0:
			want = "spent"
		case off.Cmp(bigOf(-1)) == 0:
			want = "told"
		default:
			continue
		}
		if asked[want] > 40 {
			continue
		}
		lines := []string{paramsLine(p), "keys", "set a " + intsText(d.plain(p)), "neg b a"}
		for range times - 1 {
			lines = append(lines, "add b b a")
		}
		lines = append(lines, "get b", "room b")
		answers, _ := checkRuns(t, d.coins(500), script(lines...))
		if told := answers[len(answers)-2]; (told == "spent") != (want == "spent") {
			t.Errorf("%v: %d fresh ones, bound %v, limit %v: %q", p, times, bound, limit, told)
		}
		asked[want]++
	}
}

// A bound that AddBound makes above q is told as q, also where it goes on.
func TestSumsOfBoundsAreCut(t *testing.T) {
	t.Parallel()
	d := dice(1310)
	for _, p := range slices.Concat(tightParams(), engineParams()) {
		w := scribe{dice: &d, p: p, letters: 1}
		lines := []string{paramsLine(p), "keys", "set a " + w.plainText()}
		q := bigProduct(p.Primes)
		words := d.coins(impl.MaxWords)
		bound, doubled := cutAt(p, freshBound(p)), 0
		for doubled < 50 && bound.Cmp(q) < 0 {
			lines, bound = append(lines, "add a a a"), cutAt(p, new(big.Int).Lsh(bound, 1))
			doubled++
		}
		if doubled == 50 {
			continue
		}
		for _, last := range [][]string{{}, {"add a a a"}, {"neg a a"}, {"add b a a", "plus a b " + w.plainText()}, {"times a a " + w.plainText()}, {"mul a a a"}} {
			all := slices.Concat(lines, last, []string{"get a", "room a"})
			text := script(all...)
			answers, k := checkRuns(t, words, text)
			checkKept(t, text, "a", k)
			_, told, ok := impl.KeptCipher(words, text, "a")
			if !ok || bigFrom(told).Cmp(q) != 0 || answers[len(answers)-2] != "spent" || answers[len(answers)-1] != "0" {
				t.Errorf("%v: %v is told for a bound above q, %v: %q", p, told, ok, answers)
			}
		}
	}
}

// stepOfHand is one call of the chapters ahead, and the line that should make it.
type stepOfHand struct {
	line string
	do   func(k *byHand)
}

// byHand keeps what the functions of chapters 8, 9 and 11 tell, called one after the other.
type byHand struct {
	t      *testing.T
	p      impl.Params
	words  []int
	at     int
	s      []int
	public impl.Pair
	relin  []impl.Pair
	turn   []impl.Pair
	c      map[string]impl.Cipher
	bound  map[string]impl.Whole
}

func (k *byHand) must(oks ...bool) {
	k.t.Helper()
	if slices.Contains(oks, false) {
		k.t.Fatalf("%v: a call by hand is refused", k.p)
	}
}

func stepsByHand() []stepOfHand {
	return []stepOfHand{
		{"keys", func(k *byHand) {
			var ok [3]bool
			k.s, k.at, ok[0] = impl.SecretFrom(k.p, k.words, k.at)
			k.public, k.at, ok[1] = impl.PublicFrom(k.p, k.s, k.words, k.at)
			k.relin, k.at, ok[2] = impl.RelinFrom(k.p, k.s, k.words, k.at)
			k.must(ok[:]...)
		}},
		{"set a 1 2", func(k *byHand) { k.set("a", []int{1, 2}) }},
		{"turn 3", func(k *byHand) {
			var ok bool
			k.turn, k.at, ok = impl.TurnFrom(k.p, k.s, 3, k.words, k.at)
			k.must(ok)
		}},
		{"set b 2 0", func(k *byHand) { k.set("b", []int{2, 0}) }},
		{"add c a b", func(k *byHand) {
			c, ok := impl.AddCiphers(k.p, k.c["a"], k.c["b"])
			bound, okBound := impl.AddBound(k.bound["a"], k.bound["b"])
			k.must(ok, okBound)
			k.c["c"], k.bound["c"] = c, bound
		}},
		{"neg d c", func(k *byHand) {
			c, ok := impl.NegCipher(k.p, k.c["c"])
			k.must(ok)
			k.c["d"], k.bound["d"] = c, k.bound["c"]
		}},
		{"plus e d 0 2", func(k *byHand) {
			c, ok := impl.AddPlain(k.p, k.c["d"], []int{0, 2})
			bound, okBound := impl.AddPlainBound(k.p, k.bound["d"])
			k.must(ok, okBound)
			k.c["e"], k.bound["e"] = c, bound
		}},
		{"times f a 2 1", func(k *byHand) {
			c, ok := impl.MulPlain(k.p, k.c["a"], []int{2, 1})
			bound, okBound := impl.MulPlainBound(k.p, k.bound["a"])
			k.must(ok, okBound)
			k.c["f"], k.bound["f"] = c, bound
		}},
		{"mul g a e", func(k *byHand) {
			three, ok := impl.MulCiphers(k.p, k.c["a"], k.c["e"])
			c, okSwitch := impl.SwitchLast(k.p, three, k.relin)
			product, okProduct := impl.MulBound(k.p, k.bound["a"], k.bound["e"])
			bound, okBound := impl.SwitchBound(k.p, product)
			k.must(ok, okSwitch, okProduct, okBound)
			k.c["g"], k.bound["g"] = c, bound
		}},
		{"rot h g 3", func(k *byHand) {
			c, ok := impl.TurnCipher(k.p, k.c["g"], 3, k.turn)
			bound, okBound := impl.SwitchBound(k.p, k.bound["g"])
			k.must(ok, okBound)
			k.c["h"], k.bound["h"] = c, bound
		}},
		{"rot a b 3", func(k *byHand) {
			c, ok := impl.TurnCipher(k.p, k.c["b"], 3, k.turn)
			bound, okBound := impl.SwitchBound(k.p, k.bound["b"])
			k.must(ok, okBound)
			k.c["a"], k.bound["a"] = c, bound
		}},
		{"set b 0 1", func(k *byHand) { k.set("b", []int{0, 1}) }},
	}
}

func (k *byHand) set(name string, m []int) {
	k.t.Helper()
	c, next, ok := impl.Encrypt(k.p, k.public, m, k.words, k.at)
	bound, okBound := impl.FreshBound(k.p)
	k.must(ok, okBound)
	k.c[name], k.bound[name], k.at = c, bound, next
}

// KeptCipher tells, behind each line, what the functions tell when they are called one after the other with the same coins.
func TestKeptCiphersByHand(t *testing.T) {
	d := dice(1311)
	for count := 1; count <= impl.MaxRow; count++ {
		p := impl.Params{N: 2, T: []int{3, 17, 256, 65536}[count-1], Noise: []int{1, 3, 16, 2}[count-1], Primes: fittingPrimes(2, count, -1)}
		k := &byHand{t: t, p: p, words: d.wordsFor(p.Primes[count-1], 600), c: map[string]impl.Cipher{}, bound: map[string]impl.Whole{}}
		text := script(paramsLine(p))
		for _, step := range stepsByHand() {
			text += step.line + "\n"
			step.do(k)
			for name, c := range k.c {
				kept, bound, ok := impl.KeptCipher(k.words, text, name)
				if want := wholeFrom(cutAt(p, bigFrom(k.bound[name]))); !ok || !sameCipher(kept, c) || !sameWhole(bound, want) {
					t.Errorf("%v: behind %q %s keeps %v, %v, %v, want %v, %v", p, step.line, name, kept, bound, ok, c, want)
				}
				if noise := askNoiseOf(t, p, k.s, kept); noise.Cmp(bigFrom(bound)) > 0 {
					t.Errorf("%v: behind %q %s has a noise of %v, and a bound of %v", p, step.line, name, noise, bound)
				}
			}
		}
	}
}

// A line that is refused may as well not be there: all others are answered the same, and the same is kept.
func TestRefusedLinesChangeNothing(t *testing.T) {
	d, asked := dice(1312), tally{}
	for i, p := range append(engineParams(), tightParams()...) {
		if p.N > 8 {
			continue
		}
		w := scribe{dice: &d, p: p, letters: 3 + 23*(i%2)}
		words := d.coins(keysCost(p) + turnCost(p) + setCost(p)*(2+d.below(15)))
		text := w.scriptOf(30, slices.Concat(w.begun()[:3], w.firstNames())...)
		answers, k := checkRuns(t, words, text)
		asked.counts(text, answers)
		lines := strings.Split(strings.TrimSuffix(text, "\n"), "\n")
		var left, want []string
		for j, answer := range answers {
			if !slices.Contains(refusals, answer) {
				left, want = append(left, lines[j]), append(want, answer)
			}
		}
		shorter := script(left...)
		for name, run := range map[string]func(words []int, text string) string{"RunEngine": impl.RunEngine, "RunModel": impl.RunModel} {
			if got := run(words, shorter); got != answersText(want) {
				t.Errorf("%s of %s without its refused lines: %s", name, brieflyText(text), differing(got, answersText(want)))
			}
		}
		for name := range k.names {
			checkKept(t, shorter, name, k)
		}
	}
	asked.atLeast(t, 20, refusals[:4]...)
	asked.atLeast(t, 20, "dry")
}

// A script's answers begin with those of its first lines, and lines that only ask change nothing.
func TestAnswersLineByLine(t *testing.T) {
	d := dice(1313)
	for _, p := range []impl.Params{exampleParams, engineParams()[7], tightParams()[0]} {
		w := scribe{dice: &d, p: p, letters: 4}
		text := w.scriptOf(10, slices.Concat(w.begun(), w.firstNames())...)
		words := d.coins(2000)
		all := impl.RunEngine(words, text)
		lines := strings.SplitAfter(text, "\n")
		answers := strings.SplitAfter(all, "\n")
		for count := range lines {
			part, want := strings.Join(lines[:count], ""), strings.Join(answers[:count], "")
			if got := impl.RunEngine(words, part); got != want {
				t.Errorf("RunEngine of the first %d lines of %s: %s", count, brieflyText(text), differing(got, want))
			}
			if got := impl.RunModel(words, part); got != want {
				t.Errorf("RunModel of the first %d lines of %s: %s", count, brieflyText(text), differing(got, want))
			}
		}
		var left []string
		for _, line := range lines {
			word, _, _ := strings.Cut(strings.TrimSuffix(line, "\n"), " ")
			if line != "" && !slices.Contains([]string{"get", "room", "depth"}, word) {
				left = append(left, strings.TrimSuffix(line, "\n"))
			}
		}
		_, k := checkRuns(t, words, text)
		for name := range k.names {
			checkKept(t, script(left...), name, k)
		}
	}
}

// What is told is what the reckoning of plain polynomials tells, by hand.
func TestNamedScripts(t *testing.T) {
	d := dice(1314)
	words := d.coins(1000)
	mustTell(t, words, []string{"get a", exampleLine, "set a 1 2", "keys", "set a 3 4", "mul b a a", "get b", "get c", "fly"},
		"none", "ok", "nokey", "ok", "ok", "ok", "10 7", "none", "what")
	// (3 + 4 X), (1 - X): X X is -1, and numbers go modulo 17
	mustTell(t, words, []string{exampleLine, "keys", "turn 3", "set a 3 4", "set b 1 16", "add c a b", "get c", "neg c a", "get c", "plus c a 1 16", "get c", "times c a 1 16", "get c", "mul c a b", "get c", "rot c a 3", "get c", "depth"},
		"ok", "ok", "ok", "ok", "ok", "ok", "4 3", "ok", "14 13", "ok", "4 3", "ok", "7 1", "ok", "7 1", "ok", "3 13", "4")
	mustTell(t, words, []string{exampleLine, "keys", "set a 3 4", "room a", "mul a a a", "room a", "mul a a a", "room a", "mul a a a", "room a", "mul a a a", "room a", "get a", "mul a a a", "room a", "get a"},
		"ok", "ok", "ok", "46", "ok", "20", "ok", "14", "ok", "7", "ok", "0", "1 0", "ok", "0", "spent")
	// N of 4: 1 + 2 X + 3 X^2 + 4 X^3 with X^5 for X, and with X^7
	p := impl.Params{N: 4, T: 10, Noise: 2, Primes: fittingPrimes(4, 2, -1)}
	mustTell(t, words, []string{paramsLine(p), "keys", "turn 5", "turn 7", "set a 1 2 3 4", "rot b a 5", "get b", "rot b a 7", "get b", "rot b b 7", "get b", "rot b b 3"},
		"ok", "ok", "ok", "ok", "ok", "ok", "1 8 3 6", "ok", "1 6 7 8", "ok", "1 2 3 4", "nokey")
	mustTell(t, words, []string{paramsLine(p), "keys", "set a 0 1 0 0", "mul b a a", "mul b b a", "get b", "mul b b a", "get b", "times a a 0 0 0 9", "get a", "depth"},
		"ok", "ok", "ok", "ok", "ok", "0 0 0 1", "ok", "9 0 0 0", "ok", "1 0 0 0", strconv.Itoa(depthOf(p)))
}

// The answers of a bound that is spent ahead of any step: there is no room at all.
func TestNamedNarrowScripts(t *testing.T) {
	words := slices.Repeat([]int{5, 1 << 20, 99}, 60)
	// fresh: 1 + 2 9, the limit (41 - 2) / 2
	mustTell(t, words, []string{"params 4 2 1 41", "keys", "set a 1 0 1 1", "get a", "room a", "depth"}, "ok", "ok", "ok", "spent", "0", "0")
	// T r beyond q: nothing is ever told
	mustTell(t, words, []string{"params 2 3 1 5", "keys", "set a 1 2", "get a", "room a", "depth", "drop a", "get a"}, "ok", "ok", "ok", "spent", "0", "0", "ok", "none")
}

// A name that is its own argument.
func TestNamesThatAreTheirOwnArguments(t *testing.T) {
	d := dice(1315)
	words := d.coins(1000)
	mustTell(t, words, []string{exampleLine, "keys", "turn 3", "set a 3 4", "add a a a", "get a", "neg a a", "get a", "plus a a 1 2", "get a", "times a a 0 1", "get a", "rot a a 3", "get a", "mul a a a", "get a"},
		"ok", "ok", "ok", "ok", "ok", "6 8", "ok", "11 9", "ok", "12 11", "ok", "6 12", "ok", "6 5", "ok", "11 9")
	mustTell(t, words, []string{exampleLine, "keys", "set a 3 4", "set b 1 1", "add a a b", "get a", "add b a b", "get b", "mul b a b", "get b", "mul a a b", "get a"},
		"ok", "ok", "ok", "ok", "ok", "4 5", "ok", "5 6", "ok", "7 15", "ok", "4 10")
	// not kept yet, a name is no argument of its own
	mustTell(t, words, []string{exampleLine, "keys", "turn 3", "add a a a", "neg a a", "plus a a 1 2", "times a a 1 2", "mul a a a", "rot a a 3", "get a", "set b 1 1", "add a b a", "add a a b", "mul a b a", "mul a a b", "get b"},
		"ok", "ok", "ok", "none", "none", "none", "none", "none", "none", "none", "ok", "none", "none", "none", "none", "1 1")
}

// Names and keys go when params or keys come anew; nothing goes where these are refused.
func TestBeginningAnew(t *testing.T) {
	d := dice(1316)
	words := d.coins(1000)
	first := []string{exampleLine, "keys", "turn 3", "set a 3 4"}
	firstTold := []string{"ok", "ok", "ok", "ok"}
	told := func(more ...string) []string { return append(slices.Clone(firstTold), more...) }
	lines := func(more ...string) []string { return append(slices.Clone(first), more...) }
	mustTell(t, words, lines(exampleLine, "get a", "set a 1 1", "turn 3", "rot a a 3", "drop a", "keys", "get a", "rot a a 3", "set a 5 6", "get a"),
		told("ok", "none", "nokey", "nokey", "nokey", "none", "ok", "none", "nokey", "ok", "5 6")...)
	mustTell(t, words, lines("keys", "get a", "rot b a 3", "turn 3", "rot b a 3", "set a 5 6", "rot b a 3", "get b"),
		told("ok", "none", "nokey", "ok", "none", "ok", "ok", "5 11")...)
	for _, bad := range []string{"params 2 17 1 268435361 268435361", "params 3 17 1 268435361", "params 2 17 17 268435361", "params 2 17 0 268435361", "params 2 1 1 268435361", "params 2 17 1 17", "params 2 17 1 15", "params -2 17 1 268435361", "params 2 17 1 0", "params 0 0 0 0", "params 2 65537 1 268435361", "params 2 17 1 268435361 268435009 268434781 268434689 97", "params 32 17 1 268435009"} {
		mustTell(t, words, lines(bad, "get a", "rot b a 3", "get b", "set c 1 1", "get c", "depth"), told("bad", "3 4", "ok", "3 13", "ok", "1 1", "4")...)
		mustTell(t, words, []string{bad, "get a", "keys", "depth", exampleLine, "keys"}, "bad", "none", "none", "none", "ok", "ok")
	}
	// other params, with another N and T: what was kept would be none of theirs
	p := impl.Params{N: 4, T: 2, Noise: 1, Primes: fittingPrimes(4, 2, -1)}
	mustTell(t, words, lines(paramsLine(p), "get a", "keys", "get a", "set a 3 4", "set a 1 0 1 1", "get a", "turn 5", "rot a a 5", "get a"),
		told("ok", "none", "ok", "none", "bad", "ok", "1 0 1 1", "ok", "ok", "1 0 1 1")...)
}

// Coins go on when params come anew: what is set then is set by the next ones.
func TestCoinsGoOn(t *testing.T) {
	p, d := exampleParams, dice(1317)
	words := d.coins(2*keysCost(p) + 2*setCost(p))
	mustTell(t, words, []string{exampleLine, "keys", "set a 3 4", exampleLine, "keys", "set a 3 4", "set a 3 4", exampleLine, "keys"},
		"ok", "ok", "ok", "ok", "ok", "ok", "dry", "ok", "dry")
	text := script(exampleLine, "keys", "set a 3 4")
	one, _, _ := impl.KeptCipher(words, text, "a")
	two, _, _ := impl.KeptCipher(words, text+text, "a")
	behind, _, ok := impl.KeptCipher(words[len(words)/2:], text, "a")
	if !ok || sameCipher(one, two) || !sameCipher(two, behind) {
		t.Errorf("behind params anew %v is kept, with the coins behind %v, with the first ones %v", two, behind, one)
	}
}

// A key of a turn that is made anew takes coins anew, and is the one that is kept.
func TestTurnsMadeAnew(t *testing.T) {
	p, d := exampleParams, dice(1318)
	words := d.coins(keysCost(p) + 2*turnCost(p) + setCost(p))
	mustTell(t, words, []string{exampleLine, "keys", "set a 3 4", "turn 3", "turn 3", "turn 3", "rot b a 3", "get b", "rot b b 1"},
		"ok", "ok", "ok", "ok", "ok", "dry", "ok", "3 13", "nokey")
}

// MaxKept names may be kept; one more may not, unless it is kept already, or one was dropped ahead.
func TestHowManyNamesAreKept(t *testing.T) {
	d := dice(1319)
	words := d.coins(1000)
	lines, told := []string{exampleLine, "keys", "turn 3"}, []string{"ok", "ok", "ok"}
	for i := range impl.MaxKept {
		lines, told = append(lines, fmt.Sprintf("set %s %d 4", alphabet[i:i+1], i%17)), append(told, "ok")
	}
	for _, c := range []struct{ lines, told []string }{
		{[]string{"set u 1 1", "add u a b", "neg u a", "plus u a 1 1", "times u a 1 1", "mul u a b", "rot u a 3", "get u"}, []string{"full", "full", "full", "full", "full", "full", "full", "none"}},
		{[]string{"set t 1 1", "get t", "add t a b", "get t", "neg t a", "get t", "plus t a 1 1", "get t", "times t b 1 0", "get t", "mul t b b", "get t", "rot t b 3", "get t", "set u 1 1"},
			[]string{"ok", "1 1", "ok", "1 8", "ok", "0 13", "ok", "1 5", "ok", "1 4", "ok", "2 8", "ok", "1 13", "full"}},
		{[]string{"drop u", "set u 1 1", "drop a", "get a", "set u 1 1", "get u", "set a 1 1", "drop b", "add a u u", "get a", "neg b u"}, []string{"none", "full", "ok", "none", "ok", "1 1", "full", "ok", "ok", "2 2", "full"}},
		{[]string{"drop c", "drop c", "mul z a b", "mul y a b", "drop z", "rot x a 3", "plus w a 1 1", "keys", "set z 1 1", "set y 1 1", "get t"}, []string{"ok", "none", "ok", "full", "ok", "ok", "full", "ok", "ok", "ok", "none"}},
	} {
		mustTell(t, words, slices.Concat(lines, c.lines), slices.Concat(told, c.told)...)
	}
}
