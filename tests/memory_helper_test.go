package tests

import (
	"slices"
	"testing"
)

// mustAnswer runs f and makes a panic in it a failure that names the call.
func mustAnswer(t *testing.T, call string, f func()) {
	t.Helper()
	defer func() {
		if fault := recover(); fault != nil {
			t.Errorf("%s panics: %v", call, fault)
		}
	}()
	f()
}

// checkMemory makes the call with each list laid into memory of its own that goes on behind it, and looks at that memory again, also once the lists that are answered are written over.
func checkMemory(t *testing.T, call string, args [][]int, f func(laid [][]int) [][]int) {
	t.Helper()
	for _, behind := range []int{-1, 5} {
		laid, memory, before := layOut(args, behind)
		mustAnswer(t, call, func() {
			answers := f(laid)
			if !sameLists(memory, before) {
				t.Errorf("%s writes into an argument", call)
			}
			if !apart(answers) {
				t.Errorf("%s tells two lists that share memory", call)
			}
			scribble(answers, -77)
			if !sameLists(memory, before) {
				t.Errorf("%s shares memory with an argument", call)
			}
		})
	}
}

func sameLists(a [][]int, b [][]int) bool {
	return slices.EqualFunc(a, b, slices.Equal[[]int])
}

// layOut copies the lists into greater ones; what lies behind a list there is filled with one number.
func layOut(args [][]int, behind int) ([][]int, [][]int, [][]int) {
	var laid, memory, before [][]int
	for _, a := range args {
		all := append(slices.Clone(a), slices.Repeat([]int{behind}, 3)...)
		laid = append(laid, all[:len(a)])
		memory = append(memory, all)
		before = append(before, slices.Clone(all))
	}
	return laid, memory, before
}

// scribble writes over all that an answer hands out, also behind its length.
func scribble(lists [][]int, n int) {
	for _, a := range lists {
		all := a[:cap(a)]
		for i := range all {
			all[i] = n
		}
	}
}

// apart writes another number over each list, and asks whether all stay; it writes back what was there.
func apart(lists [][]int) bool {
	var kept [][]int
	for i, a := range lists {
		kept = append(kept, slices.Clone(a[:cap(a)]))
		scribble(lists[i:i+1], -100-i)
	}
	same := true
	for i, a := range lists {
		all := a[:cap(a)]
		for k := range all {
			same = same && all[k] == -100-i
		}
		copy(all, kept[i])
	}
	return same
}
