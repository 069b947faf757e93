package tests

import (
	"fmt"
	"math"
	"runtime"
	"slices"
	"strings"
	"testing"
	"time"

	"loop.example/g00133/impl"
)

// Promise 14: every function of the chapter, at every edge and at wrong inputs, in every place.

// refusedRun asks for the zero answer of all three functions, whatever the document's words say.
func refusedRun(t *testing.T, words []int, text string) {
	t.Helper()
	mustAnswer(t, "a run", func() {
		engine, model := impl.RunEngine(words, text), impl.RunModel(words, text)
		if engine != "" || model != "" {
			t.Errorf("%d words and %s are answered %.100q and %.100q", len(words), brieflyText(text), engine, model)
		}
		for _, name := range []string{"a", "b", "", "z"} {
			if c, bound, ok := impl.KeptCipher(words, text, name); c.Parts != nil || bound.Limbs != nil || bound.Neg || ok {
				t.Errorf("%d words and %s keep %v, %v, %v", len(words), brieflyText(text), c, bound, ok)
			}
		}
	})
	checkScript(t, words, text)
}

// goodScript keeps what is asked for at a and b.
func goodScript() string {
	return script(exampleLine, "keys", "set a 3 4", "mul b a a", "get b")
}

// filled is a script of so many bytes: a good one, and one line more of all that lacks.
func filled(count int) string {
	text := goodScript()
	return text + strings.Repeat("x", count-len(text)-1) + "\n"
}

func TestHowLongAScriptMayBe(t *testing.T) {
	d := dice(1331)
	words := d.coins(200)
	good := []string{"ok", "ok", "ok", "ok", "10 7"}
	for _, count := range []int{1000, 2998, 2999, impl.MaxScript} {
		if got := checkScript(t, words, filled(count)); !slices.Equal(got, append(slices.Clone(good), "what")) {
			t.Errorf("a script of %d bytes is answered %q", count, got)
		}
	}
	for _, count := range []int{impl.MaxScript + 1, impl.MaxScript + 2, 3100, 4000, 1 << 20} {
		refusedRun(t, words, filled(count))
		refusedRun(t, words, strings.Repeat("x", count-1)+"\n")
		refusedRun(t, words, strings.Repeat("\n", count))
	}
	// a line of all that a script may have, without and with its byte 10
	refusedRun(t, words, strings.Repeat("x", impl.MaxScript))
	mustTell(t, words, []string{strings.Repeat("x", impl.MaxScript-1)}, "what")
}

func TestHowManyLinesAScriptMayHave(t *testing.T) {
	d := dice(1332)
	words := d.coins(200)
	for _, line := range []string{"", "get a", "depth", " "} {
		for count := range 130 {
			lines := slices.Repeat([]string{line}, count)
			if count > impl.MaxLines {
				refusedRun(t, words, script(lines...))
				continue
			}
			want := "none"
			if strings.TrimSpace(line) == "" {
				want = "what"
			}
			mustTell(t, words, lines, slices.Repeat([]string{want}, count)...)
		}
	}
	text := goodScript() + strings.Repeat("get a\n", impl.MaxLines-5)
	if got := checkScript(t, words, text); len(got) != impl.MaxLines || got[impl.MaxLines-1] != "3 4" {
		t.Errorf("%d lines are answered %q", impl.MaxLines, got)
	}
	refusedRun(t, words, text+"\n")
	refusedRun(t, words, text+"get a\n")
	refusedRun(t, words, "\n"+text)
	// 61 lines, of which the last one lacks its byte 10
	refusedRun(t, words, text+"get a")
}

func TestEmptyScriptsAndLines(t *testing.T) {
	d := dice(1333)
	words := d.coins(200)
	refusedRun(t, words, "")
	refusedRun(t, nil, "")
	mustTell(t, words, []string{""}, "what")
	mustTell(t, words, []string{"", exampleLine, "", "keys", "", "set a 3 4", "", "get a", ""}, "what", "ok", "what", "ok", "what", "ok", "what", "3 4", "what")
	for _, line := range []string{" ", "  ", "\t", "\r", "\x00", "\x0b", "\x0c", "\u00a0", "\u2028", "\u0085"} {
		mustTell(t, words, []string{line, exampleLine, line, "keys", line}, "what", "ok", "what", "ok", "what")
	}
}

// A last line without its byte 10 makes all of it no script.
func TestLastLinesWithoutTheirEnd(t *testing.T) {
	d := dice(1334)
	words := d.coins(200)
	text := goodScript()
	for count := range len(text) {
		part := text[:count]
		if count == 0 || part[count-1] == '\n' {
			checkScript(t, words, part)
			continue
		}
		refusedRun(t, words, part)
	}
	refusedRun(t, words, text+"get a")
	refusedRun(t, words, text+" ")
	refusedRun(t, words, text+"\r")
	refusedRun(t, words, text+"\x00")
	refusedRun(t, words, strings.ReplaceAll(text, "\n", "\r"))
	// a byte 13 ahead of each byte 10 is one of the line
	got := checkScript(t, words, strings.ReplaceAll(text, "\n", "\r\n"))
	if !slices.Equal(got, slices.Repeat([]string{"what"}, 5)) {
		t.Errorf("lines with a byte 13 are answered %q", got)
	}
}

// wrongWordLists are none of chapter 7's.
func wrongWordLists(words []int) [][]int {
	var wrong [][]int
	for _, place := range []int{0, 1, len(words) / 2, len(words) - 1} {
		for _, word := range []int{-1, -2, twoTo32, twoTo32 + 1, -twoTo32, 1 << 40, math.MinInt, math.MaxInt} {
			other := slices.Clone(words)
			other[place] = word
			wrong = append(wrong, other)
		}
	}
	wrong = append(wrong, []int{-1}, []int{twoTo32}, make([]int, impl.MaxWords+1), make([]int, impl.MaxWords+2), make([]int, 100000))
	return append(wrong, append(slices.Clone(words), slices.Repeat([]int{7}, impl.MaxWords+1-len(words))...))
}

func TestWordsOfScriptsThatAreNone(t *testing.T) {
	d := dice(1335)
	words := d.coins(200)
	for _, wrong := range wrongWordLists(words) {
		refusedRun(t, wrong, goodScript())
		refusedRun(t, wrong, "get a\n")
		refusedRun(t, wrong, "\n")
		refusedRun(t, wrong, "")
	}
	// the last word is asked too, where no line takes it
	most := d.coins(impl.MaxWords)
	if got := checkScript(t, most, goodScript()); got[4] != "10 7" {
		t.Errorf("%d words: %q", len(most), got)
	}
	most[impl.MaxWords-1] = twoTo32 - 1
	if got := checkScript(t, most, goodScript()); got[4] != "10 7" {
		t.Errorf("%d words: %q", len(most), got)
	}
	most[impl.MaxWords-1] = twoTo32
	refusedRun(t, most, goodScript())
	// no words at all are words
	for _, none := range [][]int{nil, {}} {
		mustTell(t, none, []string{exampleLine, "keys", "depth", "set a 1 1", "x"}, "ok", "dry", "4", "nokey", "what")
	}
	for _, word := range []int{0, 1, twoTo32 - 1, twoTo32 - 2, 1 << 31} {
		checkScript(t, slices.Repeat([]int{word}, 300), goodScript()+"depth\nroom a\nget a\n")
	}
}

// What is passed over by each draw of a key makes it dry, however many words there are.
func TestWordsThatAreAllPassedOver(t *testing.T) {
	words := slices.Repeat([]int{twoTo32 - 1}, impl.MaxWords)
	mustTell(t, words, []string{exampleLine, "keys", "keys", "depth"}, "ok", "dry", "dry", "4")
}

// asked of a name: what a line with it in each place is answered.
func TestWrongNames(t *testing.T) {
	d := dice(1336)
	words := d.coins(300)
	names := []string{"A", "Z", "ab", "aa", "a1", "1", "0", "-1", "10", "`", "{", "@", "é", "\xe1", "\x00", "a\x00", "-", "*", "α", "get", "_", "a.", ".a", "\u0430"}
	lines, told := []string{exampleLine, "keys", "turn 3", "set a 3 4"}, []string{"ok", "ok", "ok", "ok"}
	for _, name := range names {
		for _, form := range []string{"set @ 1 1", "add @ a a", "add a @ a", "add a a @", "neg @ a", "neg a @", "plus @ a 1 1", "plus a @ 1 1", "times @ a 1 1", "times a @ 1 1", "mul @ a a", "mul a @ a", "mul a a @", "rot @ a 3", "rot a @ 3", "get @", "room @", "drop @"} {
			line := strings.ReplaceAll(form, "@", name)
			if answers, _ := checkRuns(t, words, script(append(slices.Clone(lines), line, "get a")...)); !slices.Equal(answers, append(slices.Clone(told), "what", "3 4")) {
				t.Errorf("%q is answered %q", line, answers)
			}
		}
	}
	// every letter is a name
	for _, letter := range alphabet {
		name := string(letter)
		mustTell(t, words, []string{exampleLine, "keys", "set " + name + " 3 4", "get " + name, "add " + name + " " + name + " " + name, "get " + name, "drop " + name, "get " + name}, "ok", "ok", "ok", "3 4", "ok", "6 8", "ok", "none")
	}
}

// Every byte as a name, and every byte in the place of a blank.
func TestEveryByte(t *testing.T) {
	d := dice(1337)
	words := d.coins(300)
	first := []string{exampleLine, "keys"}
	for b := range 256 {
		if b == '\n' {
			continue
		}
		char := string([]byte{byte(b)})
		want := "what"
		if b >= 'a' && b <= 'z' {
			want = "ok"
		}
		if answers, _ := checkRuns(t, words, script(append(slices.Clone(first), "set "+char+" 3 4")...)); answers[2] != want {
			t.Errorf("the name %q is answered %q", char, answers[2])
		}
		want = "what"
		if b == ' ' {
			want = "ok"
		}
		if answers, _ := checkRuns(t, words, script(append(slices.Clone(first), "set"+char+"a 3 4", "set a 3"+char+"4")...)); answers[2] != want || b != ' ' && answers[3] == "ok" {
			t.Errorf("%q for a blank is answered %q", char, answers)
		}
		// behind a line, and ahead of it
		if answers, _ := checkRuns(t, words, script(append(slices.Clone(first), "depth"+char, char+"depth")...)); answers[2] != "what" || answers[3] != "what" {
			t.Errorf("%q beside a line is answered %q", char, answers)
		}
	}
}

func TestBlanksOfLines(t *testing.T) {
	d := dice(1338)
	words := d.coins(300)
	first := []string{exampleLine, "keys", "turn 3", "set a 3 4"}
	for _, line := range []string{exampleLine, "keys", "turn 3", "set a 3 4", "add a a a", "neg a a", "plus a a 1 1", "times a a 1 1", "mul a a a", "rot a a 3", "get a", "room a", "drop a", "depth"} {
		spoiled := []string{line + " ", " " + line, "  " + line, line + "  ", line + "\t", line + " \t"}
		for i, char := range line {
			if char == ' ' {
				spoiled = append(spoiled, line[:i]+" "+line[i:], line[:i]+"\t"+line[i+1:], line[:i]+" \t"+line[i+1:])
			}
		}
		for _, other := range spoiled {
			answers, _ := checkRuns(t, words, script(append(slices.Clone(first), other, "get a")...))
			if answers[4] != "what" || answers[5] != "3 4" {
				t.Errorf("%q is answered %q", other, answers[4:])
			}
		}
		if answers, _ := checkRuns(t, words, script(append(slices.Clone(first), line)...)); slices.Contains(refusals, answers[4]) {
			t.Errorf("%q is answered %q", line, answers[4])
		}
	}
}

// Words too few and too many, and words of other commands.
func TestFormsOfLines(t *testing.T) {
	d := dice(1339)
	words := d.coins(300)
	first := []string{exampleLine, "keys", "turn 3", "set a 3 4"}
	for line, want := range map[string]string{
		"params": "what", "params 2": "what", "params 2 17": "what", "params 2 17 1": "what", "params a 17 1 97": "what", "params 2 17 1 a": "what", "params 2 17 1 97 a": "what", "params 2 17 1 97 -": "what",
		"params 2 17 1 97": "ok", "params 2 17 1 97 193": "ok", "params 2 17 1 97 97": "bad", "params 2 17 1 97 193 257 269 281": "bad", "params 2 17 1 97 193 257 269": "ok",
		"keys 1": "what", "keys a": "what", "keys keys": "what", "key": "what", "keyss": "what", "Keys": "what", "KEYS": "what",
		"turn": "what", "turn a": "what", "turn 3 3": "what", "turn 3 a": "what", "turn a 3": "what",
		"set": "what", "set a": "what", "set 1": "what", "set 3 4": "what", "set a b": "what", "set a b 1 1": "what", "set a 1 b": "what", "set a 1": "bad", "set a 1 1 1": "bad", "set a 1 1 b": "what",
		"add": "what", "add a": "what", "add a a": "what", "add a a a a": "what", "add a a 1": "what", "add a a a 1": "what",
		"neg": "what", "neg a": "what", "neg a a a": "what", "neg a 1": "what", "neg a a 1": "what",
		"plus": "what", "plus a": "what", "plus a a": "what", "plus a 1 1": "what", "plus a a 1": "bad", "plus a a a 1 1": "what", "plus a a 1 1 1": "bad", "plus a a 1 a": "what",
		"times": "what", "times a": "what", "times a a": "what", "times a 1 1": "what", "times a a 1": "bad", "times a a a 1 1": "what", "times a a 1 1 1": "bad", "times a a 1 a": "what",
		"mul": "what", "mul a": "what", "mul a a": "what", "mul a a a a": "what", "mul a a 1": "what",
		"rot": "what", "rot a": "what", "rot a a": "what", "rot a 3": "what", "rot a a a": "what", "rot a a 3 3": "what", "rot a a a 3": "what", "rot a a 3 a": "what",
		"get": "what", "get a a": "what", "get a 1": "what", "get 1": "what",
		"room": "what", "room a a": "what", "room a 1": "what", "room 1": "what",
		"drop": "what", "drop a a": "what", "drop a b": "what", "drop 1": "what",
		"depth 1": "what", "depth a": "what", "depths": "what",
		"a": "what", "1": "what", "3 4": "what", "ok": "what", "what": "what", "spent": "what", "set,a,1,1": "what", "sub a a a": "what", "": "what",
	} {
		answers, _ := checkRuns(t, words, script(append(slices.Clone(first), line)...))
		if answers[4] != want {
			t.Errorf("%q is answered %q, want %q", line, answers[4], want)
		}
		// no form is asked for params or keys
		if want == "what" {
			mustTell(t, words, []string{line, exampleLine, line}, "what", "ok", "what")
		}
	}
}

// Numbers are read in one form alone, of at most 9 digits.
func TestNumbersOfLines(t *testing.T) {
	d := dice(1340)
	words := d.coins(300)
	first := []string{exampleLine, "keys", "turn 3", "set a 3 4"}
	forms := map[string]string{
		"00": "what", "01": "what", "03": "what", "000000003": "what", "0000000003": "what", "+3": "what", "+0": "what", "-0": "what", "-00": "what", "-01": "what", "--3": "what", "-": "what", "+": "what", "3-": "what",
		"1000000000": "what", "9999999999": "what", "-1000000000": "what", "18446744073709551619": "what", "4294967299": "what", "99999999999999999999999999": "what",
		"3.0": "what", "3.": "what", ".3": "what", "3e0": "what", "0x3": "what", "0b11": "what", "0o3": "what", "1_0": "what", "3,": "what", "３": "what", "٣": "what", "3a": "what", "a3": "what", "3\x00": "what", "\x003": "what", "3\t": "what", "": "what",
		"-1": "bad", "-3": "bad", "-17": "bad", "-999999999": "bad", "999999999": "bad", "100000000": "bad", "123456789": "bad",
	}
	for number, want := range forms {
		for _, form := range []string{"turn @", "set a @ 1", "set a 1 @", "plus a a @ 1", "plus a a 1 @", "times a a @ 1", "times a a 1 @", "rot a a @", "params @ 17 1 97", "params 2 @ 1 97", "params 2 17 @ 97", "params 2 17 1 @", "params 2 17 1 97 @"} {
			line := strings.ReplaceAll(form, "@", number)
			answers, _ := checkRuns(t, words, script(append(slices.Clone(first), line, "get a")...))
			if answers[4] != want || answers[5] != "3 4" {
				t.Errorf("%q is answered %q", line, answers[4:])
			}
		}
	}
}

func TestTurnsOfAnyKindOfLines(t *testing.T) {
	d := dice(1341)
	for _, n := range ringSizes {
		p := impl.Params{N: n, T: 17, Noise: 1, Primes: fittingPrimes(n, 2, -1)}
		w := scribe{dice: &d, p: p, letters: 1}
		words := d.coins(impl.MaxWords)
		for g := -3; g < 4*n+4; g++ {
			lines := []string{paramsLine(p), "keys", "set a " + w.plainText(), fmt.Sprintf("rot b a %d", g), fmt.Sprintf("turn %d", g), fmt.Sprintf("rot b a %d", g), "get b"}
			want := []string{"bad", "bad", "bad", "none"}
			answers := checkScript(t, words, script(lines...))
			if isTurn(g, n) {
				want = []string{"nokey", "ok", "ok", answers[6]}
				if slices.Contains(refusals, answers[6]) || answers[6] == "spent" {
					t.Errorf("%d: get is answered %q", g, answers[6])
				}
			}
			if !slices.Equal(answers[3:], want) {
				t.Errorf("N %d: lines of %d are answered %q, want %q", n, g, answers[3:], want)
			}
		}
		// each turn has a key of its own
		all := []string{paramsLine(p), "keys", "set a " + w.plainText(), fmt.Sprintf("turn %d", n+1)}
		for g := 1; g < 2*n; g += 2 {
			want := "nokey"
			if g == n+1 {
				want = "ok"
			}
			if answers, _ := checkRuns(t, words, script(append(slices.Clone(all), fmt.Sprintf("rot b a %d", g))...)); answers[4] != want {
				t.Errorf("N %d: rot by %d with a key for %d is answered %q", n, g, n+1, answers[4])
			}
		}
	}
}

// Every turn at once, of the same cipher.
func TestAllTurnsOfOneScript(t *testing.T) {
	d := dice(1342)
	for _, n := range ringSizes {
		p := impl.Params{N: n, T: 257, Noise: 2, Primes: fittingPrimes(n, 2, -1)}
		m := d.plain(p)
		lines := []string{paramsLine(p), "keys", "set a " + intsText(m)}
		for g := 2*n - 1; g > 0; g -= 2 {
			lines = append(lines, fmt.Sprintf("turn %d", g))
		}
		for g := 1; g < 2*n; g += 2 {
			answers, _ := checkRuns(t, d.coins(impl.MaxWords), script(append(slices.Clone(lines), fmt.Sprintf("rot b a %d", g), "get b")...))
			if got, want := answers[len(answers)-1], intsText(modT(p, intTurned(m, g))); got != want {
				t.Errorf("N %d: %v turned by %d is %q, want %q", n, m, g, got, want)
			}
		}
	}
}

func TestPlainsOfLines(t *testing.T) {
	t.Parallel()
	d := dice(1343)
	for _, p := range append(engineParams()[:12], tightParams()[3], exampleParams) {
		words := d.coins(300)
		first := []string{paramsLine(p), "keys", "set a " + intsText(d.plain(p))}
		ask := func(m []int, want string) {
			t.Helper()
			for _, form := range []string{"set b ", "plus b a ", "times b a "} {
				if answers, _ := checkRuns(t, words, script(append(slices.Clone(first), form+intsText(m), "get b")...)); answers[3] != want {
					t.Errorf("%v: %s%v is answered %q, want %q", p, form, m, answers[3], want)
				}
			}
		}
		for _, m := range edgePlains(p) {
			ask(m, "ok")
			ask(m[:p.N-1], "bad")
			ask(append(slices.Clone(m), 0), "bad")
			ask(append(slices.Clone(m), m...), "bad")
		}
		for place := range p.N {
			for _, x := range []int{p.T, p.T + 1, 2 * p.T, -1, -p.T, 999999999, -999999999} {
				m := d.plain(p)
				m[place] = x
				ask(m, "bad")
			}
		}
	}
}

func TestParamsOfLines(t *testing.T) {
	d := dice(1344)
	words := d.coins(impl.MaxWords)
	for _, p := range slices.Concat(fewParams(), narrowParams()) {
		w := scribe{dice: &d, p: p, letters: 1}
		answers, _ := checkRuns(t, words, script(paramsLine(p), "keys", "set a "+w.plainText(), "get a", "room a", "depth"))
		if !slices.Equal(answers[:3], []string{"ok", "ok", "ok"}) {
			t.Errorf("%v: %q", p, answers)
		}
	}
	for _, p := range fewParams() {
		least := slices.Min(p.Primes)
		for _, change := range []func(p *impl.Params){
			func(p *impl.Params) { p.N = 3 },
			func(p *impl.Params) { p.N = 1 },
			func(p *impl.Params) { p.N = 32 },
			func(p *impl.Params) { p.N = 0 },
			func(p *impl.Params) { p.N = -p.N },
			func(p *impl.Params) { p.T = 1 },
			func(p *impl.Params) { p.T = 0 },
			func(p *impl.Params) { p.T = -2 },
			func(p *impl.Params) { p.T = least },
			func(p *impl.Params) { p.T = 65537 },
			func(p *impl.Params) { p.Noise = 0 },
			func(p *impl.Params) { p.Noise = 17 },
			func(p *impl.Params) { p.Noise = -1 },
			func(p *impl.Params) { p.Primes = append(slices.Clone(p.Primes), p.Primes[0]) },
			func(p *impl.Params) { p.Primes = fittingPrimes(p.N, 5, -1) },
			func(p *impl.Params) { p.Primes = []int{4 * p.N * p.N} },
			func(p *impl.Params) { p.Primes = []int{lastPrime, lastPrime - 2} },
			func(p *impl.Params) { p.Primes = []int{primeFor(p.N, impl.MaxPrime+1, 1)} },
			func(p *impl.Params) { p.Primes = []int{0} },
			func(p *impl.Params) { p.Primes = []int{-p.Primes[0]} },
		} {
			other := p
			change(&other)
			mustTell(t, words, []string{paramsLine(other), "keys", "depth"}, "bad", "none", "none")
		}
	}
}

// Names that are none keep nothing, whatever is kept beside them.
func TestNamesThatKeepNothing(t *testing.T) {
	d := dice(1345)
	words, text := d.coins(300), goodScript()
	_, k := checkRuns(t, words, text)
	for _, name := range []string{"", "c", "z", "A", "B", "aa", "ab", "ba", "a ", " a", "a\n", "\na", "a\x00", "\x00", "1", "-", "é", "a3 4", "set a", strings.Repeat("a", 5000)} {
		checkKept(t, text, name, k)
		if c, bound, ok := impl.KeptCipher(words, text, name); c.Parts != nil || bound.Limbs != nil || bound.Neg || ok {
			t.Errorf("%q keeps %v, %v, %v", name, c, bound, ok)
		}
	}
	for _, name := range []string{"a", "b"} {
		if _, _, ok := impl.KeptCipher(words, text, name); !ok {
			t.Errorf("%q keeps nothing", name)
		}
		for _, last := range []string{"drop " + name, "keys", exampleLine, "params 4 3 1 73"} {
			if c, bound, ok := impl.KeptCipher(words, text+last+"\n", name); c.Parts != nil || bound.Limbs != nil || ok {
				t.Errorf("behind %q %q keeps %v, %v, %v", last, name, c, bound, ok)
			}
		}
		for _, last := range []string{"drop c", "drop " + name + " ", "params 4 3 1 5", "turn 2", "get " + name, ""} {
			if _, _, ok := impl.KeptCipher(words, text+last+"\n", name); !ok {
				t.Errorf("behind %q %q keeps nothing", last, name)
			}
		}
	}
}

// Scripts of any bytes at all.
func TestScriptsOfAnyBytes(t *testing.T) {
	d := dice(1346)
	words := d.coins(300)
	for i := range 3000 {
		count := d.below(200)
		if i%10 == 0 {
			count = d.below(3200)
		}
		text := make([]byte, count)
		for j := range text {
			switch d.below(4) {
			case 0:
				text[j] = byte(d.below(256))
			case 1:
				text[j] = " \n0123456789"[d.below(12)]
			default:
				text[j] = alphabet[d.below(26)]
			}
		}
		if i%2 == 0 && count > 0 {
			text[count-1] = '\n'
		}
		checkRuns(t, words, string(text))
		k := deskOf(t, words)
		k.run(string(text))
		checkKept(t, string(text), string(text[:min(count, 1)]), k)
	}
}

// A good script with one byte changed, taken out or put in, at every place.
func TestEveryChangeOfAScript(t *testing.T) {
	d := dice(1347)
	words := d.coins(300)
	text := script(exampleLine, "keys", "turn 3", "set a 3 4", "rot b a 3", "mul a a b", "plus a a 1 16", "get a")
	for at := range len(text) {
		for _, b := range []byte{0, ' ', '\n', '0', '9', '-', 'a', 'z', 'A', 200} {
			checkRuns(t, words, text[:at]+string([]byte{b})+text[at+1:])
			checkRuns(t, words, text[:at]+string([]byte{b})+text[at:])
		}
		checkRuns(t, words, text[:at]+text[at+1:])
	}
}

// What lies behind the words' length is not taken.
func TestCoinsBehindTheWordsOfARun(t *testing.T) {
	d := dice(1348)
	words := d.coins(keysCost(exampleParams) + setCost(exampleParams))
	text := script(exampleLine, "keys", "set a 3 4", "get a")
	for _, count := range []int{0, 5, keysCost(exampleParams) - 1, len(words) - 1} {
		want := "ok\ndry\nnokey\nnone\n"
		if count >= keysCost(exampleParams) {
			want = "ok\nok\ndry\nnone\n"
		}
		if got := impl.RunEngine(words[:count], text); got != want {
			t.Errorf("RunEngine of %d words of %d = %q", count, len(words), got)
		}
		if got := impl.RunModel(words[:count], text); got != want {
			t.Errorf("RunModel of %d words of %d = %q", count, len(words), got)
		}
		if c, bound, ok := impl.KeptCipher(words[:count], text, "a"); c.Parts != nil || bound.Limbs != nil || ok {
			t.Errorf("KeptCipher of %d words of %d = %v, %v, %v", count, len(words), c, bound, ok)
		}
	}
	// nor asked: what is no word there changes nothing
	wrong := append(slices.Clone(words), -1, twoTo32)[:len(words)]
	if got := impl.RunEngine(wrong, text); got != "ok\nok\nok\n3 4\n" {
		t.Errorf("RunEngine with no words behind the length = %q", got)
	}
}

// Nothing is kept from call to call, and what was told stays.
func TestRunsKeepNothing(t *testing.T) {
	d := dice(1349)
	words := d.coins(600)
	other := script(exampleLine, "keys", "turn 1", "set b 1 1", "set a 7 7", "drop b", "get a")
	text := goodScript()
	want, model := impl.RunEngine(words, text), impl.RunModel(words, text)
	c, bound, _ := impl.KeptCipher(words, text, "b")
	again, againBound, ok := impl.KeptCipher(words, text, "b")
	lists := slices.Concat(cipherAnswer{cipher: c}.lists(), [][]int{bound.Limbs}, cipherAnswer{cipher: again}.lists(), [][]int{againBound.Limbs})
	if !ok || !sameCipher(c, again) || !sameWhole(bound, againBound) || !apart(lists) {
		t.Errorf("KeptCipher tells %v, %v, then %v, %v", c, bound, again, againBound)
	}
	scribble(lists, -77)
	for _, between := range []string{other, "", "get a\n", "drop b\n", "keys\n", "set a 1 1\n", strings.Repeat("x", 4000)} {
		impl.RunEngine(words, between)
		impl.RunModel(words, between)
		impl.KeptCipher(words, between, "b")
		if got := impl.RunEngine(words, text); got != want || impl.RunModel(words, text) != model {
			t.Errorf("behind another run the answers are %q", got)
		}
		if got := impl.RunEngine(words, "get a\nkeys\ndepth\n"); got != "none\nnone\nnone\n" {
			t.Errorf("behind another run a new one begins with %q", got)
		}
		_, k := checkRuns(t, words, text)
		checkKept(t, text, "b", k)
	}
}

// Several runs at one time don't see each other.
func TestRunsBesideEachOther(t *testing.T) {
	d := dice(1350)
	w := scribe{dice: &d, p: exampleParams, letters: 4}
	type run struct {
		words []int
		text  string
		want  string
	}
	runs := make([]run, 16)
	for i := range runs {
		words, text := d.coins(800), w.scriptOf(5, slices.Concat(w.begun(), w.firstNames())...)
		runs[i] = run{words: words, text: text, want: impl.RunEngine(words, text)}
	}
	told := make(chan string)
	for _, r := range runs {
		go func() {
			if got := impl.RunEngine(r.words, r.text); got != r.want {
				told <- differing(got, r.want)
				return
			}
			told <- differing(impl.RunModel(r.words, r.text), r.want)
		}()
	}
	for _, r := range runs {
		lines := strings.Count(r.want, "\n")
		if got := <-told; strings.Contains(got, "at line") {
			t.Errorf("of several runs one tells %s (%d lines)", got, lines)
		}
	}
}

// Nothing of a run goes on behind its answer, also where a line is dry.
func TestRunsLeaveNothingRunning(t *testing.T) {
	d := dice(1351)
	words := d.coins(300)
	before := runtime.NumGoroutine()
	for count := range 100 {
		impl.RunEngine(words[:3*count], goodScript())
		impl.RunModel(words[:3*count], goodScript())
		impl.KeptCipher(words[:3*count], goodScript(), "a")
	}
	// one that has told that it is done may still be going away
	for range 200 {
		if runtime.NumGoroutine() <= before {
			return
		}
		time.Sleep(10 * time.Millisecond)
	}
	t.Errorf("%d are running, and were %d before", runtime.NumGoroutine(), before)
}
