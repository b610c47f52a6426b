package fields

import (
	"math/rand"
	"slices"
	"strconv"
	"strings"
	"testing"

	"fields/api"
)

func TestP8AGroupIsOneEdit(t *testing.T) {
	eachGroup(t, func(t *testing.T, undo int, e *Editor, was string) {
		t.Helper()
		within := everything(e)
		expect(t, e, "commit", api.Reply{})
		expectRefused(t, e, "redo", api.ErrEmpty, 0)
		if undo == 0 {
			expectRefused(t, e, "undo", api.ErrEmpty, 0)
			return
		}
		for range 3 {
			expect(t, e, "undo", api.Reply{})
			expectSame(t, e, "undo", was)
			expect(t, e, "redo", api.Reply{})
			expectSame(t, e, "redo", within)
			expectRefused(t, e, "redo", api.ErrEmpty, 0)
		}
	})
}

// grouped does edits, in groups of so many, 0 for one alone, and tells what there is ahead of them and behind each.
func grouped(t *testing.T, e *Editor, edits []string, sizes ...int) (all []string) {
	t.Helper()
	all = []string{rulesAndValues(e)}
	for _, size := range sizes {
		if size == 0 {
			keepOn(t, e, edits[0])
			edits = edits[1:]
		} else {
			keepOn(t, e, slices.Concat([]string{"begin"}, edits[:size], []string{"commit"})...)
			edits = edits[size:]
		}
		all = append(all, rulesAndValues(e))
	}
	return all
}

func TestP8GroupsAmongSingleEdits(t *testing.T) {
	for _, sizes := range [][]int{{0, 2, 0, 3, 0, 1}, {3, 3, 3, 3}, {13}, {1, 1, 1, 1, 1, 1, 1}, {0, 0, 0, 6}, {6, 0, 0, 0, 0}, {2, 0, 2, 0, 2, 0, 2, 0}} {
		for undo := range api.MaxUndo + 1 {
			e := keeping(t, undo)
			all := grouped(t, e, someEdits, sizes...)
			last := len(all) - 1
			first := max(0, last-undo)
			for range 2 {
				for at := last; at > first; at-- {
					expectBrought(t, e, "undo", all[at-1])
				}
				expectRefused(t, e, "undo", api.ErrEmpty, 0)
				for at := first; at < last; at++ {
					expectBrought(t, e, "redo", all[at+1])
				}
				expectRefused(t, e, "redo", api.ErrEmpty, 0)
			}
			if t.Failed() {
				t.Fatalf("so with New(%d) and %v", undo, sizes)
			}
		}
	}
}

func TestP8BackAndForthAmongGroups(t *testing.T) {
	e := keeping(t, 6)
	all := grouped(t, e, someEdits, 2, 0, 3, 0, 4, 1)
	at := 6
	for _, to := range []int{0, 6, 3, 5, 1, 2, 0, 1, 0, 6, 4, 6} {
		for ; at > to; at-- {
			expectBrought(t, e, "undo", all[at-1])
		}
		for ; at < to; at++ {
			expectBrought(t, e, "redo", all[at+1])
		}
	}
}

func TestP8AGroupOfNoEditIsAnEdit(t *testing.T) {
	e := keeping(t, 1, "set a = 1", "begin", "commit")
	for range 2 {
		expectBrought(t, e, "undo", "a = 1\na: 1: 1 1\n")
		expectRefused(t, e, "undo", api.ErrEmpty, 0)
		expectBrought(t, e, "redo", "a = 1\na: 1: 1 1\n")
		expectRefused(t, e, "redo", api.ErrEmpty, 0)
	}

	f := keeping(t, 3, "set a = 1", "begin", "commit", "set a = 2", "begin", "commit", "begin", "commit")
	for _, want := range []string{"a = 2\n", "a = 2\n", "a = 1\n"} {
		expect(t, f, "undo", api.Reply{})
		expect(t, f, "list", api.Reply{Text: want})
	}
	expectRefused(t, f, "undo", api.ErrEmpty, 0)
	for _, want := range []string{"a = 2\n", "a = 2\n", "a = 2\n"} {
		expect(t, f, "redo", api.Reply{})
		expect(t, f, "list", api.Reply{Text: want})
	}
	expectRefused(t, f, "redo", api.ErrEmpty, 0)

	g := keeping(t, 0, "begin", "commit")
	expectRefused(t, g, "undo", api.ErrEmpty, 0)
	expectRefused(t, g, "redo", api.ErrEmpty, 0)
}

func TestP8UndoAndRedoWhileAGroupIsOpen(t *testing.T) {
	for undo := range api.MaxUndo + 1 {
		e := keeping(t, undo, "begin")
		expectRefused(t, e, "undo", api.ErrOpen, 0) // nothing is kept: ErrOpen goes ahead of ErrEmpty
		expectRefused(t, e, "redo", api.ErrOpen, 0)
		expectNames(t, e, "set a = 1", "a")
		expectRefused(t, e, "undo", api.ErrOpen, 0)
		expectRefused(t, e, "redo", api.ErrOpen, 0)
		keepOn(t, e, "commit")
		expectRefused(t, e, "redo", api.ErrEmpty, 0)
		if undo == 0 {
			expectRefused(t, e, "undo", api.ErrEmpty, 0)
			continue
		}
		keepOn(t, e, "begin")
		expectRefused(t, e, "undo", api.ErrOpen, 0)
		keepOn(t, e, "cancel", "undo", "begin")
		expectRefused(t, e, "redo", api.ErrOpen, 0)
		expectRefused(t, e, "undo", api.ErrOpen, 0)
		keepOn(t, e, "cancel", "redo")
		expect(t, e, "list", api.Reply{Text: "a = 1\n"})
	}
}

// While a group is open, what was taken back ahead of it is neither done again nor dropped.
func TestP8WhatIsLeftToBeDoneAgainBehindAGroup(t *testing.T) {
	for _, group := range [][]string{nil, {"set c = 1"}, {"set a = 7", "delete b", "set b = a"}, {"rename a n", "set a = n"}} {
		for _, end := range []string{"commit", "cancel", "set a = 1 1", "delete nobody", "set a = a"} {
			e := keeping(t, 4, "set b = a")
			all := states(t, e, "set a = 1", "set a = 2", "rename a c")
			expectBrought(t, e, "undo", all[2])
			expectBrought(t, e, "undo", all[1])
			keepOn(t, e, "begin")
			keepOn(t, e, group...)
			expectRefused(t, e, "redo", api.ErrOpen, 0)
			within := rulesAndValues(e)
			e.Do(end)
			expectClosed(t, e)
			if end == "commit" {
				expectRefused(t, e, "redo", api.ErrEmpty, 0)
				expectBrought(t, e, "undo", all[1])
				expectBrought(t, e, "redo", within)
				expectRefused(t, e, "redo", api.ErrEmpty, 0)
				expectBrought(t, e, "undo", all[1])
			} else {
				expectBrought(t, e, "redo", all[2])
				expectBrought(t, e, "redo", all[3])
				expectRefused(t, e, "redo", api.ErrEmpty, 0)
				expectBrought(t, e, "undo", all[2])
				expectBrought(t, e, "undo", all[1])
			}
			expectBrought(t, e, "undo", all[0])
			expectBrought(t, e, "undo", "")
			expectRefused(t, e, "undo", api.ErrEmpty, 0)
			if t.Failed() {
				t.Fatalf("so with %q and %q", group, end)
			}
		}
	}
}

// A group that was taken back, and lines that are no edits: it can still be done again.
func TestP8WhatIsLeftBehindLinesOfNoGroup(t *testing.T) {
	e := keeping(t, 2, "begin", "set a = 1", "set b = a", "commit", "undo")
	expectClosed(t, e)
	keepOn(t, e, "begin", "cancel", "list", "order")
	expectRefused(t, e, "delete a", api.ErrName, 0)
	expectBrought(t, e, "redo", "a = 1\nb = a\na: 1: 1 1\nb: a: 1 1\n")
	keepOn(t, e, "undo", "begin", "commit")
	expectRefused(t, e, "redo", api.ErrEmpty, 0)
	expect(t, e, "list", api.Reply{})
}

func TestP8ASingleEditBehindAGroupThatWasTakenBack(t *testing.T) {
	e := keeping(t, 6, "set a = 1", "set b = a + c", "begin", "rename a c", "set a = c", "set d = b", "commit", "undo")
	expectNames(t, e, "set c = 5", "c b")
	expectValue(t, e, "b", api.Int, 6)
	expectRefused(t, e, "redo", api.ErrEmpty, 0)
	expectNames(t, e, "set d = b", "d")
	expectCircle(t, e, "set a = d", "a d b")
	expectNames(t, e, "set a = c", "a b d")
	expectValue(t, e, "d", api.Int, 10)
	expectAllInOrder(t, e)
}

// The edits within a group are none of those that are kept, till it is committed.
func TestP8TheEditsOfAnOpenGroupPushOutNone(t *testing.T) {
	for _, end := range []string{"cancel", "delete nobody"} {
		e := keeping(t, 2, "set a = 1", "set a = 2", "set a = 3", "begin", "set b = 1", "set b = 2", "set b = 3", "set b = 4")
		e.Do(end)
		expect(t, e, "undo", api.Reply{})
		expect(t, e, "undo", api.Reply{})
		expect(t, e, "list", api.Reply{Text: "a = 1\n"})
		expectRefused(t, e, "undo", api.ErrEmpty, 0)
	}
	e := keeping(t, 2, "set a = 1", "set a = 2", "set a = 3", "begin", "set b = 1", "set b = 2", "set b = 3", "commit")
	expect(t, e, "undo", api.Reply{})
	expect(t, e, "list", api.Reply{Text: "a = 3\n"})
	expect(t, e, "undo", api.Reply{})
	expect(t, e, "list", api.Reply{Text: "a = 2\n"})
	expectRefused(t, e, "undo", api.ErrEmpty, 0)
}

func TestP9RenameThereAndBackInAGroup(t *testing.T) {
	for _, end := range []string{"commit", "cancel", "set", "rename a a"} {
		e := keeping(t, 6, "set a = 1", "set b = a * a", "set c = b + other")
		was := rulesAndValues(e)
		keepOn(t, e, "begin", "rename a tmp", "rename tmp a")
		if now := rulesAndValues(e); now != was {
			t.Errorf("%s, was\n%s", now, was)
		}
		e.Do(end)
		if now := rulesAndValues(e); now != was {
			t.Errorf("behind %s %s, was\n%s", end, now, was)
		}
		if end == "commit" {
			expectBrought(t, e, "undo", was)
			expectBrought(t, e, "redo", was)
		}
	}
}

// Two edits of a group that would be a circle at once, if the first were not taken back at the right time.
func TestP9NoCircleByWayOfAGroup(t *testing.T) {
	e := keeping(t, 6, "set a = b", "set b = 1")
	keepOn(t, e, "begin", "set a = 1", "set b = a")
	expectOneOfItsTurns(t, e, "set a = b", "a b")
	expect(t, e, "list", api.Reply{Text: "a = b\nb = 1\n"})
	expectCircle(t, e, "set b = a", "a b")
	keepOn(t, e, "begin", "set a = 1", "set b = a", "commit")
	expectCircle(t, e, "set a = b", "a b")
	for range 3 {
		keepOn(t, e, "undo")
		expectCircle(t, e, "set b = a", "a b")
		expectNames(t, e, "order", "b a")
		keepOn(t, e, "redo")
		expectCircle(t, e, "set a = b", "a b")
		expectNames(t, e, "order", "a b")
	}
}

// groupedRules is keptRules, with what there is in a group while it is open.
type groupedRules struct {
	keptRules
	open    bool
	within  plainRules
	atBegin string // all that could be asked of the editor
}

func (g *groupedRules) now() plainRules {
	if g.open {
		return g.within
	}
	return g.all[g.at]
}

// turnOrGroup does a line of one word.
func (g *groupedRules) turnOrGroup(e *Editor, line string) api.Errno {
	switch {
	case line == "commit" && g.open:
		g.open = false
		g.keep(g.within)
	case line == "cancel" && g.open:
		g.open = false
	case line == "commit" || line == "cancel":
		return api.ErrClosed
	case g.open:
		return api.ErrOpen
	case line == "begin":
		g.open, g.within, g.atBegin = true, g.all[g.at], everything(e)
	default:
		return g.turn(line)
	}
	return api.OK
}

// edit does an edit on the editor too, and holds the two against each other.
func (g *groupedRules) edit(t *testing.T, e *Editor, line string) api.Errno {
	t.Helper()
	otherwise := everything(e)
	if g.open {
		otherwise = g.atBegin
	}
	next, errno := followOr(t, e, g.now(), line, otherwise)
	switch {
	case errno != api.OK:
		g.open = false
	case g.open:
		g.within = next
	default:
		g.keep(next)
	}
	return errno
}

// wrongWhateverThereIs are the lines among some whose errors hang on the line alone.
func wrongWhateverThereIs(lines []wrongLine) []wrongLine {
	return slices.DeleteFunc(slices.Clone(lines), func(c wrongLine) bool {
		return !slices.Contains([]api.Errno{api.ErrLong, api.ErrToken, api.ErrSyntax, api.ErrDepth}, c.errno)
	})
}

// expectBackAndForth takes back, and does again, as often as it goes.
func expectBackAndForth(t *testing.T, e *Editor) {
	t.Helper()
	all := []string{rulesAndValues(e)}
	for e.Do("undo").Err == api.OK {
		all = append(all, rulesAndValues(e))
		expectAllInOrder(t, e)
	}
	for _, want := range slices.Backward(all[:len(all)-1]) {
		expectBrought(t, e, "redo", want)
	}
	for _, want := range all[1:] {
		expectBrought(t, e, "undo", want)
	}
	expectRefused(t, e, "undo", api.ErrEmpty, 0)
}

func TestP7ToP9DrawnLines(t *testing.T) {
	names := []string{"a", "b", "ab", "c1", "begin", "x", "yy", "zzzzzz", "cancel", "k", "n0", "p"}
	closing, leaving := wrongWhateverThereIs(closingLines), wrongWhateverThereIs(leavingLines)
	counts := map[string]int{}
	for seed := range 350 {
		random := rand.New(rand.NewSource(int64(seed)))
		d := drawer{random, names[:3+random.Intn(len(names)-2)]}
		g := groupedRules{keptRules: keptRules{most: seed % (api.MaxUndo + 1), all: []plainRules{{}}}}
		e := keeping(t, g.most)
		for range 100 {
			line := d.oneOfAll()
			wasOpen := g.open
			var errno api.Errno
			switch kind := random.Intn(30); {
			case len(line) > api.MaxLine:
				continue
			case kind == 0:
				wrong := closing[random.Intn(len(closing))]
				line, errno, g.open = wrong.line, wrong.errno, false
				expect(t, e, line, api.Reply{Err: errno, At: wrong.at})
			case kind < 4:
				wrong := leaving[random.Intn(len(leaving))]
				line, errno = wrong.line, wrong.errno
				expect(t, e, line, api.Reply{Err: errno, At: wrong.at})
			case strings.Contains(line, " "):
				errno = g.edit(t, e, line)
			default:
				errno = g.turnOrGroup(e, line)
				expect(t, e, line, api.Reply{Err: errno})
			}
			checkAll(t, e, g.now())
			if isOpen(e) != g.open {
				t.Errorf("a group is open: %v", !g.open)
			}
			if t.Failed() {
				t.Fatalf("so with the seed %d behind %q and\n%s", seed, line, g.now().list())
			}
			counts[firstWord(line)+" "+strconv.Itoa(int(errno))+" "+strconv.FormatBool(wasOpen)]++
		}
		e.Do("cancel")
		expectBackAndForth(t, e)
	}
	for _, often := range []string{
		"set 0 true", "delete 0 true", "rename 0 true", "set 0 false", "delete 0 false", "rename 0 false",
		"set 3 true", "set 4 true", "set 7 true", "set 8 true", "delete 3 true", "delete 5 true", "rename 3 true", "rename 5 true", "rename 6 true", "rename 8 true",
		"begin 0 false", "begin 9 true", "commit 0 true", "commit 10 false", "cancel 0 true", "cancel 10 false",
		"undo 0 false", "redo 0 false", "undo 11 false", "redo 11 false", "undo 9 true", "redo 9 true", "set 2 true", "set 1 true", "value 3 true",
	} {
		if counts[often] < 20 {
			t.Errorf("only %d times %s (the first word, the error, whether a group was open)", counts[often], often)
		}
	}
}
