package tests

import (
	"fmt"
	"math/big"
	"regexp"
	"slices"
	"strconv"
	"strings"
	"testing"

	"loop.example/g00133/impl"
)

const alphabet = "abcdefghijklmnopqrstuvwxyz"

// refusals are the answers that change nothing.
var refusals = []string{"what", "none", "bad", "nokey", "full", "dry"}

// lineForms are the forms that a line may have; a number has at most 9 digits, and a sign only below 0.
func lineForms() []*regexp.Regexp {
	number, name := ` (?:0|-?[1-9][0-9]{0,8})`, ` [a-z]`
	var forms []*regexp.Regexp
	for _, form := range []string{
		"params" + number + "{4,}", "keys", "turn" + number, "set" + name + number + "+",
		"add" + name + name + name, "neg" + name + name, "plus" + name + name + number + "+", "times" + name + name + number + "+",
		"mul" + name + name + name, "rot" + name + name + number, "get" + name, "room" + name, "drop" + name, "depth",
	} {
		form = strings.ReplaceAll(form, number+"{4,}", "(?:"+number+"){4,}")
		form = strings.ReplaceAll(form, number+"+", "(?:"+number+")+")
		forms = append(forms, regexp.MustCompile(`\A`+form+`\z`))
	}
	return forms
}

var allForms = lineForms()

// desk is the engine in the document's words, by the functions of the chapters ahead; beside each cipher it holds the plain that it should be.
type desk struct {
	t     *testing.T
	words []int
	at    int
	keyring
	turns map[int][]impl.Pair
	names map[string]held
}

func deskOf(t *testing.T, words []int) *desk {
	return &desk{t: t, words: words, names: map[string]held{}}
}

func isAnyScript(text string) bool {
	return len(text) <= 3000 && strings.Count(text, "\n") <= 60 && (text == "" || text[len(text)-1] == '\n')
}

// run gives the answers, one for each line.
func (k *desk) run(text string) []string {
	if !isForDraw(coinArgs{words: k.words}) || !isAnyScript(text) {
		return nil
	}
	var answers []string
	for _, line := range strings.SplitAfter(text, "\n") {
		if line != "" {
			answers = append(answers, k.answer(line[:len(line)-1]))
		}
	}
	return answers
}

func (k *desk) answer(line string) string {
	if !slices.ContainsFunc(allForms, func(form *regexp.Regexp) bool { return form.MatchString(line) }) {
		return "what"
	}
	var names []string
	var numbers []int
	parts := strings.Fields(line)
	for _, part := range parts[1:] {
		if number, err := strconv.Atoi(part); err == nil {
			numbers = append(numbers, number)
		} else {
			names = append(names, part)
		}
	}
	if fault := k.fault(parts[0], names, numbers); fault != "" {
		return fault
	}
	if len(names) > 0 && !slices.Contains([]string{"get", "room", "drop", "set"}, parts[0]) {
		return k.make(parts[0], names, numbers)
	}
	return k.do(parts[0], names, numbers)
}

func paramsOf(numbers []int) impl.Params {
	return impl.Params{N: numbers[0], T: numbers[1], Noise: numbers[2], Primes: numbers[3:]}
}

// fault is what is wrong ahead of any coins, in the document's order; empty where nothing is.
func (k *desk) fault(word string, names []string, numbers []int) string {
	if word == "params" {
		if !isParams(paramsOf(numbers)) {
			return "bad"
		}
		return ""
	}
	if k.p.N == 0 {
		return "none"
	}
	switch word {
	case "set", "plus", "times":
		if !arePlain(numbers, k.p.N, k.p.T) {
			return "bad"
		}
	case "turn", "rot":
		if !isTurn(numbers[0], k.p.N) {
			return "bad"
		}
	}
	if (word == "turn" || word == "set") && k.s == nil || word == "rot" && k.turns[numbers[0]] == nil {
		return "nokey"
	}
	asked := names
	if !slices.Contains([]string{"get", "room", "drop"}, word) && len(names) > 0 {
		asked = names[1:]
	}
	for _, name := range asked {
		if _, ok := k.names[name]; !ok {
			return "none"
		}
	}
	if len(asked) < len(names) && len(k.names) == 20 {
		if _, ok := k.names[names[0]]; !ok {
			return "full"
		}
	}
	return ""
}

// do is for lines that may take coins, and for those that only ask or let go.
func (k *desk) do(word string, names []string, numbers []int) string {
	switch word {
	case "params":
		k.keyring, k.turns, k.names = keyring{p: paramsOf(numbers)}, nil, map[string]held{}
	case "keys":
		return k.keys()
	case "turn":
		pairs, next, ok := impl.TurnFrom(k.p, k.s, numbers[0], k.words, k.at)
		if !ok {
			return "dry"
		}
		k.turns[numbers[0]], k.at = pairs, next
	case "set":
		c, next, ok := impl.Encrypt(k.p, k.public, numbers, k.words, k.at)
		if !ok {
			return "dry"
		}
		k.names[names[0]], k.at = held{c: c, m: numbers, bound: cutAt(k.p, freshBound(k.p))}, next
	case "get":
		return k.told(k.names[names[0]])
	case "room":
		return strconv.Itoa(max(0, limitOf(k.p).BitLen()-k.names[names[0]].bound.BitLen()))
	case "drop":
		delete(k.names, names[0])
	case "depth":
		return strconv.Itoa(depthOf(k.p))
	}
	return "ok"
}

func (k *desk) keys() string {
	s, next, okS := impl.SecretFrom(k.p, k.words, k.at)
	public, next, okPublic := impl.PublicFrom(k.p, s, k.words, next)
	relin, next, okRelin := impl.RelinFrom(k.p, s, k.words, next)
	if !okS || !okPublic || !okRelin {
		return "dry"
	}
	k.keyring, k.at = keyring{p: k.p, s: s, public: public, relin: relin}, next
	k.turns, k.names = map[int][]impl.Pair{}, map[string]held{}
	return "ok"
}

// told is the plain that a cipher should be.
func (k *desk) told(a held) string {
	if a.bound.Cmp(limitOf(k.p)) >= 0 {
		return "spent"
	}
	return strings.Trim(fmt.Sprint(a.m), "[]")
}

// make is for lines that reckon with what is kept; each bound is cut.
func (k *desk) make(word string, names []string, numbers []int) string {
	b := k.names[names[1]]
	var a held
	switch word {
	case "add":
		a = k.sum(k.t, b, k.names[names[2]])
	case "neg":
		a = k.opposite(k.t, b)
	case "plus":
		a = k.plus(k.t, b, numbers)
	case "times":
		a = k.keyring.times(k.t, b, numbers)
	case "mul":
		a = k.product(k.t, b, k.names[names[2]])
		a.bound = cutAt(k.p, a.bound)
		a = k.switched(k.t, a)
	case "rot":
		a = k.turned(k.t, b, numbers[0], k.turns[numbers[0]])
	}
	a.bound = cutAt(k.p, a.bound)
	k.names[names[0]] = a
	return "ok"
}

// answersText has a byte 10 behind each answer.
func answersText(answers []string) string {
	var text strings.Builder
	for _, answer := range answers {
		text.WriteString(answer + "\n")
	}
	return text.String()
}

func script(lines ...string) string {
	return answersText(lines)
}

// checkRuns holds both runs against the document's words, and looks after the memory of the words; it tells the answers and the desk as it is left.
func checkRuns(t *testing.T, words []int, text string) ([]string, *desk) {
	t.Helper()
	k := deskOf(t, slices.Clone(words))
	answers := k.run(text)
	want := answersText(answers)
	for name, run := range map[string]func(words []int, text string) string{"RunEngine": impl.RunEngine, "RunModel": impl.RunModel} {
		checkMemory(t, name, [][]int{words}, func(laid [][]int) [][]int {
			if got := run(laid[0], text); got != want {
				t.Errorf("%s of %d words and %s = %s", name, len(words), brieflyText(text), differing(got, want))
			}
			return nil
		})
	}
	return answers, k
}

// brieflyText is all of a script, if it is one.
func brieflyText(text string) string {
	return fmt.Sprintf("%.3300q", text)
}

// differing tells the first line at which two answers are not the same.
func differing(got string, want string) string {
	a, b := strings.Split(got, "\n"), strings.Split(want, "\n")
	for i := range min(len(a), len(b)) {
		if a[i] != b[i] {
			return fmt.Sprintf("%.200q at line %d, want %.200q", a[i], i, b[i])
		}
	}
	return fmt.Sprintf("%d lines, want %d", len(a)-1, len(b)-1)
}

// checkKept holds KeptCipher against what the desk has at a name, looks after memory, and asks that the noise is at most the bound.
func checkKept(t *testing.T, text string, name string, k *desk) {
	t.Helper()
	want, ok := k.names[name]
	bound := new(big.Int)
	if ok {
		bound = want.bound
	}
	call := fmt.Sprintf("KeptCipher of %d words, %s and %q", len(k.words), brieflyText(text), name)
	checkMemory(t, call, [][]int{k.words}, func(laid [][]int) [][]int {
		c, told, got := impl.KeptCipher(laid[0], text, name)
		if got != ok || !sameCipher(c, want.c) || !sameWhole(told, wholeFrom(bound)) {
			t.Errorf("%s = %v, %v, %v, want %v, %v, %v", call, c, told, got, want.c, bound, ok)
		}
		if noise := new(big.Int); got && ok {
			if noise = askNoiseOf(t, k.p, k.s, c); noise.Cmp(bigFrom(told)) > 0 {
				t.Errorf("%s: a noise of %v, above its bound %v", call, noise, told)
			}
		}
		answer := cipherAnswer{cipher: c}
		lists := append(answer.lists(), told.Limbs)
		if !outerApart(answer.outerLists()) {
			t.Errorf("%s tells two lists of rows that share memory", call)
		}
		return lists
	})
}

// checkScript asks all three functions: what is kept at each letter that is, and at some that are not.
func checkScript(t *testing.T, words []int, text string) []string {
	t.Helper()
	answers, k := checkRuns(t, words, text)
	absent := 0
	for _, letter := range alphabet {
		if _, ok := k.names[string(letter)]; ok || absent < 2 {
			checkKept(t, text, string(letter), k)
			if !ok {
				absent++
			}
		}
	}
	return answers
}

// mustTell asks for just these answers, by both runs and by the document's words.
func mustTell(t *testing.T, words []int, lines []string, want ...string) {
	t.Helper()
	if got := checkScript(t, words, script(lines...)); !slices.Equal(got, want) {
		t.Errorf("%q: the document's words say %q, want %q", lines, got, want)
	}
}

func intsText(numbers []int) string {
	return strings.Trim(fmt.Sprint(numbers), "[]")
}

func paramsLine(p impl.Params) string {
	return fmt.Sprintf("params %d %d %d %s", p.N, p.T, p.Noise, intsText(p.Primes))
}

// coins are as many words as asked for, none of them likely to be passed over.
func (d *dice) coins(count int) []int {
	words := make([]int, count)
	for i := range words {
		words[i] = int(d.next() >> 32)
	}
	return words
}

// keysCost is how many words these keys take where none is passed over; a turn's key takes turnCost, and a cipher setCost.
func keysCost(p impl.Params) int {
	pair := p.N * (len(p.Primes) + 1)
	return p.N + pair + len(p.Primes)*pair
}

func turnCost(p impl.Params) int {
	return len(p.Primes) * p.N * (len(p.Primes) + 1)
}

func setCost(p impl.Params) int {
	return 3 * p.N
}

// scribe draws lines for these params, with names out of the first so many letters.
type scribe struct {
	*dice
	p       impl.Params
	letters int
}

func (w scribe) name() string {
	return alphabet[w.below(w.letters):][:1]
}

func (w scribe) plainText() string {
	m := w.plain(w.p)
	if w.below(3) == 0 {
		edges := edgePlains(w.p)
		m = edges[w.below(len(edges))]
	}
	return intsText(m)
}

// turnText is one of few, so that keys are there for many of them.
func (w scribe) turnText() string {
	return strconv.Itoa([]int{1, 3, 2*w.p.N - 1}[w.below(3)])
}

// commandWeights say how often a command is drawn.
var commandWeights = []struct {
	word   string
	weight int
}{
	{"params", 1}, {"keys", 1}, {"turn", 6}, {"set", 14}, {"add", 12}, {"neg", 6}, {"plus", 8}, {"times", 8}, {"mul", 12}, {"rot", 14}, {"get", 20}, {"room", 6}, {"drop", 5}, {"depth", 2},
}

func (w scribe) command() string {
	sum := 0
	for _, c := range commandWeights {
		sum += c.weight
	}
	left := w.below(sum)
	for _, c := range commandWeights {
		if left -= c.weight; left < 0 {
			return c.word
		}
	}
	panic("no command")
}

// lineOf has the form of the command, and numbers that may be.
func (w scribe) lineOf(word string) string {
	switch word {
	case "params":
		return paramsLine(w.p)
	case "turn":
		return "turn " + w.turnText()
	case "set":
		return "set " + w.name() + " " + w.plainText()
	case "add", "mul":
		return word + " " + w.name() + " " + w.name() + " " + w.name()
	case "neg":
		return "neg " + w.name() + " " + w.name()
	case "plus", "times":
		return word + " " + w.name() + " " + w.name() + " " + w.plainText()
	case "rot":
		return "rot " + w.name() + " " + w.name() + " " + w.turnText()
	case "get", "room", "drop":
		return word + " " + w.name()
	}
	return word
}

// spoiled changes a line so that it likely has a fault.
func (w scribe) spoiled(line string) string {
	parts := strings.Split(line, " ")
	place := w.below(len(parts))
	others := []string{"", "0", "1", "2", "-1", "-0", "+1", "01", "999999999", "1000000000", "-999999999", "a", "z", "A", "ab", "1.5", "0x1", "get", "\t", "\x00", "é", strconv.Itoa(w.p.T), strconv.Itoa(w.p.T - 1), strconv.Itoa(2 * w.p.N), strconv.Itoa(2*w.p.N + 1)}
	switch w.below(4) {
	case 0:
		parts[place] = others[w.below(len(others))]
	case 1:
		parts = slices.Insert(parts, place+1, others[w.below(len(others))])
	case 2:
		parts = slices.Delete(parts, place, place+1)
	case 3:
		at := w.below(len(line) + 1)
		return line[:at] + string(rune(1+w.below(126))) + line[at:]
	}
	return strings.Join(parts, " ")
}

// scriptOf begins with these lines, and goes on as long as a script may be; so many of a hundred lines are spoiled.
func (w scribe) scriptOf(spoiled int, first ...string) string {
	text, lines := script(first...), len(first)
	for lines < 60 {
		line := w.lineOf(w.command())
		if w.below(100) < spoiled {
			line = strings.ReplaceAll(w.spoiled(line), "\n", "")
		}
		if len(text)+len(line)+1 > 3000 {
			break
		}
		text += line + "\n"
		lines++
	}
	return text
}

// begun are the lines that make all keys a scribe's lines ask for.
func (w scribe) begun() []string {
	return []string{paramsLine(w.p), "keys", "turn 1", "turn 3", fmt.Sprintf("turn %d", 2*w.p.N-1)}
}

// firstNames are set, so that the lines behind have something to reckon with.
func (w scribe) firstNames() []string {
	var lines []string
	for i := range min(3, w.letters) {
		lines = append(lines, "set "+alphabet[i:i+1]+" "+w.plainText())
	}
	return lines
}

// engineParams: every N and number of primes, from hardly any room to a great depth.
func engineParams() []impl.Params {
	var all []impl.Params
	for _, n := range ringSizes {
		great := fittingPrimes(n, impl.MaxRow, -1)
		for count := 1; count <= impl.MaxRow; count++ {
			T := []int{2, 17, 3, 256, 65536, 16, 65535, 5}[(len(all)*3+count)%8]
			all = append(all, impl.Params{N: n, T: T, Noise: []int{1, impl.MaxNoise, 3}[len(all)%3], Primes: great[:count]})
		}
		all = append(all, impl.Params{N: n, T: 2, Noise: 1, Primes: great}, impl.Params{N: n, T: 3, Noise: 1, Primes: backward(great[:3])})
	}
	return all
}

// tightParams have room for few steps or none: one small prime, or two.
func tightParams() []impl.Params {
	var all []impl.Params
	for _, n := range ringSizes {
		for i, T := range []int{2, 3, 7, 12} {
			least := primeFor(n, 640*n+1, 1)
			all = append(all,
				impl.Params{N: n, T: T, Noise: 1 + i, Primes: []int{primeFor(n, []int{100, 3000, 70000, 1 << 22}[i]*n+1, 1)}},
				impl.Params{N: n, T: T, Noise: 2, Primes: []int{least, primeFor(n, least+2*n, 1)}})
		}
	}
	return slices.DeleteFunc(all, func(p impl.Params) bool { return !isParams(p) })
}

// exampleParams are those that the hand-written scripts begin with, and the line for it.
var exampleParams = impl.Params{N: 2, T: 17, Noise: 1, Primes: []int{268435361, 268435009}}

const exampleLine = "params 2 17 1 268435361 268435009"
