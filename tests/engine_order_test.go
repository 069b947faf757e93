package tests

import (
	"fmt"
	"slices"
	"strings"
	"testing"

	"loop.example/g00133/impl"
)

// The order in which an answer is looked for, every choice of faults at once.

// scene is a choice of faults of one line.
type scene struct {
	form, unbegun, bad, nokey, none, full, dry bool
}

// scenes are all choices.
func scenes() []scene {
	var all []scene
	for bits := range 128 {
		has := func(bit int) bool { return bits>>bit&1 == 1 }
		all = append(all, scene{has(0), has(1), has(2), has(3), has(4), has(5), has(6)})
	}
	return all
}

// firstFault is the answer that counts; empty where there is no fault.
func (s scene) firstFault() string {
	for i, has := range []bool{s.form, s.unbegun, s.bad, s.nokey, s.none, s.full, s.dry} {
		if has {
			return []string{"what", "none", "bad", "nokey", "none", "full", "dry"}[i]
		}
	}
	return ""
}

// actor is a command, and which faults its lines may have.
type actor struct {
	word                  string
	names                 int
	plain, turn, key, dry bool
	// asks: its first name must be kept, so it makes nothing
	asks bool
}

var actors = []actor{
	{word: "params"},
	{word: "keys", dry: true},
	{word: "turn", turn: true, key: true, dry: true},
	{word: "set", names: 1, plain: true, key: true, dry: true},
	{word: "add", names: 3},
	{word: "neg", names: 2},
	{word: "plus", names: 2, plain: true},
	{word: "times", names: 2, plain: true},
	{word: "mul", names: 3},
	{word: "rot", names: 2, turn: true, key: true},
	{word: "get", names: 1, asks: true},
	{word: "room", names: 1, asks: true},
	{word: "drop", names: 1, asks: true},
	{word: "depth"},
}

// mayBe says whether a line of the command can have just these faults.
func (a actor) mayBe(s scene) bool {
	makes := a.names > 0 && !a.asks
	params := a.word == "params"
	// without keys there are no names that are kept
	keyless := s.unbegun || s.nokey && a.word != "rot"
	switch {
	case s.unbegun && params, s.bad && !a.plain && !a.turn && !params, s.nokey && !a.key, s.dry && !a.dry:
		return false
	case s.none && !a.asks && a.names < 2, s.full && !makes, s.full && keyless:
		return false
	case keyless && !s.none && (a.asks || a.names > 1), s.unbegun && !s.nokey && a.key:
		return false
	}
	return true
}

// before are the lines that lead to where the line has these faults.
func (s scene) before(a actor) []string {
	if s.unbegun {
		return nil
	}
	lines := []string{exampleLine}
	if s.nokey && a.word != "rot" {
		return lines
	}
	lines = append(lines, "keys")
	if !s.nokey {
		lines = append(lines, "turn 3")
	}
	kept := 2
	if s.full {
		kept = impl.MaxKept
	}
	for i := range kept {
		lines = append(lines, fmt.Sprintf("set %s %d 2", alphabet[i:i+1], i%17))
	}
	return lines
}

// lines are all ways in which the line may have these faults: each of its names and numbers may be the wrong one.
func (s scene) lines(a actor) []string {
	names := []string{""}
	switch {
	case a.asks && s.none:
		names = []string{" y"}
	case a.asks:
		names = []string{" a"}
	case a.names == 1:
		names = []string{" z"}
	case a.names == 2 && s.none:
		names = []string{" z y", " z z"}
	case a.names == 2:
		names = []string{" z a"}
	case a.names == 3 && s.none:
		names = []string{" z y a", " z a y", " z y x", " z z a", " z a z"}
	case a.names == 3:
		names = []string{" z a b", " z a a"}
	}
	numbers := []string{""}
	switch {
	case a.plain && s.bad:
		numbers = []string{" 1 17", " 17 1", " 1", " 1 2 3", " -1 2", " 1 999999999"}
	case a.plain:
		numbers = []string{" 1 16"}
	case a.turn && s.bad:
		numbers = []string{" 2", " 0", " 5", " -1", " -3", " 999999999"}
	case a.turn:
		numbers = []string{" 3"}
	case a.word == "params" && s.bad:
		numbers = []string{" 2 17 1 17", " 3 17 1 268435361", " 2 17 1 268435361 268435361"}
	case a.word == "params":
		numbers = []string{" 2 17 1 268435361"}
	}
	var all []string
	for _, n := range names {
		for _, m := range numbers {
			all = append(all, a.word+n+m)
		}
	}
	if !s.form {
		return all
	}
	line := all[0]
	return []string{line + " ", " " + line, strings.Replace(line, " ", "  ", 1) + " ", line + " A", line + " 01", line + " 1000000000", strings.ToUpper(line)}
}

// probes are lines that see what was changed, and which coins are the next ones.
func (s scene) probes() []string {
	var lines []string
	if s.unbegun {
		lines = []string{exampleLine}
	}
	return append(lines, "depth", "get a", "get b", "get z", "room a", "rot a a 3", "get a", "set a 5 6", "get a", "turn 1", "rot a a 1", "get a", "keys", "set c 7 8", "get c")
}

func TestEveryChoiceOfFaults(t *testing.T) {
	t.Parallel()
	d, asked := dice(1321), tally{}
	coins := d.coins(220)
	for _, a := range actors {
		for _, s := range scenes() {
			if !a.mayBe(s) {
				continue
			}
			before := s.before(a)
			taken := deskOf(t, coins)
			taken.run(script(before...))
			for i, line := range s.lines(a) {
				words := coins
				if s.dry {
					words = coins[:taken.at+i%6]
				}
				want := s.firstFault()
				askScene(t, words, before, line, s.probes(), want)
				asked[a.word+" "+want]++
			}
		}
	}
	asked.atLeast(t, 7, "set what", "set none", "set bad", "turn what", "turn none", "turn bad", "rot what", "rot none", "rot bad", "plus bad", "plus none", "times bad", "times none")
	asked.atLeast(t, 2, "params bad", "set nokey", "turn nokey", "rot nokey", "add none", "add full", "mul none", "mul full")
	asked.atLeast(t, 1, "params ", "keys dry", "turn dry", "set dry", "set full", "neg full", "plus full", "times full", "rot full", "get none", "room none", "drop none", "depth none", "keys none")
}

// askScene asks what a line is answered, and, where it is refused, that it changes nothing and takes no coins.
func askScene(t *testing.T, words []int, before []string, line string, probes []string, want string) {
	t.Helper()
	text := script(slices.Concat(before, []string{line}, probes)...)
	answers, _ := checkRuns(t, words, text)
	got := answers[len(before)]
	if want == "" {
		if slices.Contains(refusals, got) {
			t.Errorf("%q behind %q is refused: %q", line, before, got)
		}
		return
	}
	if got != want {
		t.Errorf("%q behind %q is answered %q, want %q", line, before, got, want)
	}
	without := script(slices.Concat(before, probes)...)
	told := answersText(slices.Delete(slices.Clone(answers), len(before), len(before)+1))
	if engine, model := impl.RunEngine(words, without), impl.RunModel(words, without); engine != told || model != told {
		t.Errorf("%q behind %q changes what comes then: %s; %s", line, before, differing(engine, told), differing(model, told))
	}
	sameKept(t, words, script(append(slices.Clone(before), line)...), script(before...), "a", "b", "t", "z")
	// which coins come next is seen by what is set then
	sameKept(t, words, text, without, "c")
}

func sameKept(t *testing.T, words []int, text string, other string, names ...string) {
	t.Helper()
	for _, name := range names {
		one, oneBound, oneOk := impl.KeptCipher(words, text, name)
		two, twoBound, twoOk := impl.KeptCipher(words, other, name)
		if !sameCipher(one, two) || !sameWhole(oneBound, twoBound) || oneOk != twoOk {
			t.Errorf("%s keeps another thing behind %q than behind %q", name, text, other)
		}
	}
}

// The same by hand, each fault with each one that comes behind it.
func TestPairsOfFaults(t *testing.T) {
	d := dice(1322)
	words := d.coins(1000)
	first := []string{exampleLine, "keys", "turn 3"}
	ask := func(words []int, before []string, line string, want string) {
		t.Helper()
		answers, _ := checkRuns(t, words, script(append(slices.Clone(before), line)...))
		if got := answers[len(before)]; got != want {
			t.Errorf("%q behind %q is answered %q, want %q", line, before, got, want)
		}
	}
	full := slices.Clone(first)
	for i := range impl.MaxKept {
		full = append(full, "set "+alphabet[i:i+1]+" 1 1")
	}
	justFull := words[:keysCost(exampleParams)+turnCost(exampleParams)+impl.MaxKept*setCost(exampleParams)]
	ask(words, nil, "get  a", "what")
	ask(words, nil, "set a 1 1 ", "what")
	ask(words, nil, "set a 1 17", "none")
	ask(words, nil, "turn 2", "none")
	ask(words, nil, "turn 3", "none")
	ask(words, nil, "rot a b 2", "none")
	ask(words, nil, "keys", "none")
	ask(words, nil, "depth", "none")
	ask(words, nil, "params 2 17 1 17", "bad")
	ask(words, nil, "params 2 17 1", "what")
	ask(words, first[:1], "set a 1 17", "bad")
	ask(words, first[:1], "set a 1 17 01", "what")
	ask(words, first[:1], "set a 1 16", "nokey")
	ask(words, first[:1], "turn 2", "bad")
	ask(words, first[:1], "turn 3", "nokey")
	ask(words, first[:1], "rot a b 2", "bad")
	ask(words, first[:1], "rot a b 3", "nokey")
	ask(words, first[:1], "add a b c", "none")
	ask(words, first[:1], "mul a b c", "none")
	ask(words, first[:1], "neg a b", "none")
	ask(words, first[:1], "plus a b 1 1", "none")
	ask(words, first[:1], "plus a b 1", "bad")
	ask(words, first[:1], "times a b 1 1", "none")
	ask(words, first[:1], "times a b 1 1 1", "bad")
	ask(words, first[:1], "get a", "none")
	ask(words, first[:1], "drop a", "none")
	ask(words, first[:1], "room a", "none")
	ask(words, first, "rot a b 1", "nokey")
	ask(words, first, "rot a b 3", "none")
	ask(words, first, "rot a b 4", "bad")
	ask(words, full, "rot z y 4", "bad")
	ask(words, full, "rot z y 1", "nokey")
	ask(words, full, "rot z y 3", "none")
	ask(words, full, "rot z a 1", "nokey")
	ask(words, full, "rot z a 3", "full")
	ask(words, full, "rot z a +3", "what")
	ask(words, full, "plus z y 1 17", "bad")
	ask(words, full, "plus z y 1 16", "none")
	ask(words, full, "plus z a 1 17", "bad")
	ask(words, full, "add z y a", "none")
	ask(words, full, "add z a y", "none")
	ask(words, full, "add z a b", "full")
	ask(words, full, "mul z a y", "none")
	ask(words, full, "mul z a b", "full")
	ask(words, full, "neg z y", "none")
	ask(words, full, "neg z a", "full")
	ask(justFull, full, "set z 1 17", "bad")
	ask(justFull, full, "set z 1 16", "full")
	ask(justFull, full, "set a 1 16", "dry")
	ask(justFull, full, "set a 1 17", "bad")
	ask(justFull, full, "turn 4", "bad")
	ask(justFull, full, "turn 3", "dry")
	ask(justFull, full, "keys", "dry")
	ask(justFull, full, "keys ", "what")
	ask(nil, first[:1], "keys", "dry")
	ask(nil, first[:1], "set a 1 16", "nokey")
	ask(nil, first[:1], "turn 3", "nokey")
}
