package fields

import (
	"slices"
	"strconv"
	"strings"
	"testing"

	"fields/api"
)

// expectSame asks for all that can be asked of an editor, the order too.
func expectSame(t *testing.T, e *Editor, behind, want string) {
	t.Helper()
	if now := everything(e); now != want {
		t.Errorf("behind %s there is\n%s\nwant\n%s", behind, now, want)
	}
	expectAllInOrder(t, e)
}

// expectClosed asks that no group is open.
func expectClosed(t *testing.T, e *Editor) {
	t.Helper()
	expectRefused(t, e, "commit", api.ErrClosed, 0)
	expectRefused(t, e, "cancel", api.ErrClosed, 0)
}

// expectOpen asks that a group is open.
func expectOpen(t *testing.T, e *Editor) {
	t.Helper()
	expectRefused(t, e, "begin", api.ErrOpen, 0)
}

func fill(names string, n int) (lines []string) {
	for i := range n {
		lines = append(lines, "set "+names+strconv.Itoa(i)+" = "+strconv.Itoa(i))
	}
	return lines
}

var someGroups = []struct{ ahead, group []string }{
	{nil, nil},
	{[]string{"set a = 1", "set b = a"}, nil},
	{nil, []string{"set a = 1"}},
	{[]string{"set a = 1"}, []string{"set a = 1"}},
	{[]string{"set a = 1", "set b = a + 1"}, []string{"set a = true"}},
	{[]string{"set a = 1", "set b = a + 1"}, []string{"delete a"}},
	{[]string{"set a = 1", "set b = a + n"}, []string{"rename a n"}},
	{[]string{"set b = a"}, []string{"set a = 1", "delete a"}},
	{[]string{"set a = 1", "set b = -a"}, []string{"set a = 2", "set a = 3", "set a = 1 / 0", "set a = true"}},
	{[]string{"set a = 1", "set b = -a"}, []string{"set a = 2", "delete a", "set a = 3", "rename a c", "set a = c + 1", "delete c", "set c = 9"}},
	{[]string{"set b = n + a", "set a = 4", "set c = b"}, []string{"rename a n", "set a = 7", "rename n m", "set n = a", "delete m", "rename a m"}},
	{[]string{"set a = 1", "set b = 2", "set c = a - b"}, []string{"rename a t", "rename b a", "rename t b"}},
	{[]string{"set a = 1", "set b = 2", "set c = a + b"}, []string{"set a = b", "set b = 5", "set a = 1", "set b = a", "set d = c"}},
	{[]string{"set p = n", "set q = p", "set m = 3"}, []string{"set r = m", "rename r n", "set m = z", "set z = 8", "delete p"}},
	{fill("a", 10), []string{"delete a3", "set n = a4", "delete a0", "set a3 = n"}},
	{[]string{"set q = a0 + a9"}, fill("a", 9)},
}

// eachGroup does all groups with editors that keep none, one and six edits. What is asked of them is told
// the editor behind all edits of the group, which is open still, and what there was at its begin.
func eachGroup(t *testing.T, ask func(t *testing.T, undo int, e *Editor, was string)) {
	t.Helper()
	for _, undo := range []int{0, 1, 6} {
		for i, c := range someGroups {
			e := keeping(t, undo, c.ahead...)
			was := everything(e)
			expect(t, e, "begin", api.Reply{})
			expectSame(t, e, "begin", was)
			keepOn(t, e, c.group...)
			if ask(t, undo, e, was); t.Failed() {
				t.Fatalf("so with New(%d) and group %d", undo, i)
			}
		}
	}
}

// keepOn does lines that must all be done.
func keepOn(t *testing.T, e *Editor, lines ...string) {
	t.Helper()
	for _, line := range lines {
		if r := e.Do(line); r.Err != api.OK {
			t.Fatalf("Do(%q) = %+v", line, r)
		}
	}
}

func TestP7Begin(t *testing.T) {
	for undo := range api.MaxUndo + 1 {
		e := keeping(t, undo)
		expect(t, e, "begin", api.Reply{})
		expectRefused(t, e, "begin", api.ErrOpen, 0)
		expectNames(t, e, "set a = 1", "a")
		expectRefused(t, e, "  begin ", api.ErrOpen, 0)
		expect(t, e, "commit", api.Reply{})
		expect(t, e, "begin", api.Reply{})
		expectOpen(t, e)
		expect(t, e, "cancel", api.Reply{})
		expect(t, e, "begin", api.Reply{})
		expectOpen(t, e)
		expect(t, e, "list", api.Reply{Text: "a = 1\n"})
	}
}

func TestP7CommitAndCancelWhileNoneIsOpen(t *testing.T) {
	for undo := range api.MaxUndo + 1 {
		e := keeping(t, undo)
		expectClosed(t, e)
		keepOn(t, e, "set a = 1", "set b = a")
		expectClosed(t, e)
		keepOn(t, e, "begin", "set a = 2", "commit")
		expectClosed(t, e)
		keepOn(t, e, "begin", "set a = 3", "cancel")
		expectClosed(t, e)
		expect(t, e, "list", api.Reply{Text: "a = 2\nb = a\n"})
	}
}

// A group's edits do, and tell, at once what they would without a group.
func TestP7WithinAGroup(t *testing.T) {
	for i, c := range someGroups {
		e, f := keeping(t, 2, c.ahead...), keeping(t, 2, c.ahead...)
		keepOn(t, e, "begin")
		for _, line := range c.group {
			expect(t, e, line, f.Do(line))
			expectSame(t, e, line, everything(f))
		}
		if t.Failed() {
			t.Fatalf("so in group %d", i)
		}
	}
}

func TestP7AskingWithinAGroup(t *testing.T) {
	e := keeping(t, 0, "set a = 1", "set b = a + 1", "begin")
	expectNames(t, e, "set a = 5", "a b")
	expectValue(t, e, "b", api.Int, 6)
	expect(t, e, "rule a", api.Reply{Text: "5"})
	expectNames(t, e, "rename a z", "z b")
	expect(t, e, "rule b", api.Reply{Text: "z + 1"})
	expectRefused(t, e, "value a", api.ErrName, 0)
	expectRefused(t, e, "rule a", api.ErrName, 0)
	expectNames(t, e, "order", "z b")
	expectNames(t, e, "set c = b", "c")
	expectNames(t, e, "set z = q", "z b c")
	expectNames(t, e, "set q = true", "q z b c")
	expectNames(t, e, "order", "q z b c")
	expect(t, e, "list", api.Reply{Text: "b = z + 1\nc = b\nq = true\nz = q\n"})
	expectValue(t, e, "c", api.Error, api.Type)
	expectNames(t, e, "delete b", "c")
	expectValue(t, e, "c", api.Error, api.Name)
	expectNames(t, e, "order", "q z c")
}

func TestP7Commit(t *testing.T) {
	eachGroup(t, func(t *testing.T, undo int, e *Editor, was string) {
		t.Helper()
		within := everything(e)
		expect(t, e, "commit", api.Reply{})
		expectSame(t, e, "commit", within)
		expectClosed(t, e)
	})
}

func TestP7Cancel(t *testing.T) {
	eachGroup(t, func(t *testing.T, undo int, e *Editor, was string) {
		t.Helper()
		expect(t, e, "cancel", api.Reply{})
		expectSame(t, e, "cancel", was)
		expectClosed(t, e)
	})
}

func TestP7AnErrorClosesEachGroup(t *testing.T) {
	eachGroup(t, func(t *testing.T, undo int, e *Editor, was string) {
		t.Helper()
		expect(t, e, "delete nobody", api.Reply{Err: api.ErrName})
		expectSame(t, e, "an error", was)
		expectClosed(t, e)
	})
}

// What was cancelled leaves nothing behind that an edit would meet.
func TestP7AnEditBehindAGroupThatWasCancelled(t *testing.T) {
	for i, c := range someGroups {
		for _, end := range []string{"cancel", "set a ="} {
			e, f := keeping(t, 6, c.ahead...), keeping(t, 6, c.ahead...)
			keepOn(t, e, append([]string{"begin"}, c.group...)...)
			e.Do(end)
			for _, line := range slices.Concat(c.group, []string{"undo", "undo", "set z = b + q", "set q = a", "rename q n", "set a = z", "delete b", "undo", "undo", "redo"}) {
				expect(t, e, line, f.Do(line))
				expectSame(t, e, line, everything(f))
			}
			if t.Failed() {
				t.Fatalf("so behind %q and group %d", end, i)
			}
		}
	}
}

func TestP7GroupAfterGroup(t *testing.T) {
	e := keeping(t, 6, "set a = 1")
	keepOn(t, e, "begin", "set a = 2", "set b = a", "commit")
	keepOn(t, e, "begin", "set a = 3", "delete b", "cancel")
	expect(t, e, "list", api.Reply{Text: "a = 2\nb = a\n"})
	keepOn(t, e, "begin", "set c = b", "set a = 9", "cancel")
	keepOn(t, e, "begin", "rename a n", "commit")
	expect(t, e, "list", api.Reply{Text: "b = n\nn = 2\n"})
	keepOn(t, e, "begin", "set n = 7")
	expect(t, e, "rename n b", api.Reply{Err: api.ErrTwice})
	expect(t, e, "list", api.Reply{Text: "b = n\nn = 2\n"})
	expectValue(t, e, "b", api.Int, 2)
	expectNames(t, e, "set n = 8", "n b")
	expectClosed(t, e)
	expectValue(t, e, "b", api.Int, 8)
}

// A group in which a line can have any of the errors: behind its edits there are as many fields as there can
// be; r mentions m so often that a longer name would make its rule too long; and some of the errors come of
// the group's own edits alone.
var (
	aheadOfErrors = []string{"set q = nnnnnn", "set m = q", "set r = m" + strings.Repeat(" + m", 24), "set n = 2", "set o = n", "set u = 1", "set v = 1", "delete v"}
	groupOfErrors = []string{"set n = 3", "set s = o", "delete u", "delete v", "rename o oo", "set x = 1", "set y = s", "set z = x", "set w = 5"}
)

type wrongLine struct {
	line  string
	errno api.Errno
	at    int
}

var closingLines = []wrongLine{
	{"set", api.ErrSyntax, 3}, {" set ", api.ErrSyntax, 5}, {"set n", api.ErrSyntax, 5}, {"set n =", api.ErrSyntax, 7}, {"set n = 1 1", api.ErrSyntax, 10}, {"set 1 = 1", api.ErrSyntax, 4},
	{"set set", api.ErrSyntax, 7}, {"set if = 1", api.ErrSyntax, 4}, {"set n < 1", api.ErrSyntax, 6}, {"set(n = 1", api.ErrSyntax, 3}, {"set=1", api.ErrSyntax, 3}, {"set n = (((((( 1", api.ErrSyntax, 16},
	{"delete", api.ErrSyntax, 6}, {"delete 1", api.ErrSyntax, 7}, {"delete n n", api.ErrSyntax, 9}, {"delete not", api.ErrSyntax, 7}, {"delete (((((((", api.ErrSyntax, 7},
	{"rename", api.ErrSyntax, 6}, {"rename n", api.ErrSyntax, 8}, {"rename n 1", api.ErrSyntax, 9}, {"rename n n2 n3", api.ErrSyntax, 12}, {"rename n true", api.ErrSyntax, 9}, {"rename=", api.ErrSyntax, 6},
	{"set n = -------1", api.ErrDepth, 14}, {"set n = (((((((", api.ErrDepth, 14}, {"  set n=not not not not not not not 1", api.ErrDepth, 32}, {"set new = if(-----(1", api.ErrDepth, 18},
	{"set n = 1" + strings.Repeat("+1", 25), api.ErrLimit, 0}, {"set new = 1" + strings.Repeat("+1", 25), api.ErrLimit, 0},
	{"set new = 1", api.ErrLimit, 0}, {"set u = 1", api.ErrLimit, 0}, {"set v = v", api.ErrLimit, 0}, {"rename m mm", api.ErrLimit, 0},
	{"delete nobody", api.ErrName, 0}, {"delete u", api.ErrName, 0}, {"delete o", api.ErrName, 0}, {"delete nnnnnn", api.ErrName, 0}, {" delete delete", api.ErrName, 0},
	{"rename nobody new", api.ErrName, 0}, {"rename u new", api.ErrName, 0}, {"rename o n", api.ErrName, 0}, {"rename rename rename", api.ErrName, 0},
	{"rename n s", api.ErrTwice, 0}, {"rename n n", api.ErrTwice, 0}, {"rename q oo", api.ErrTwice, 0}, {"rename oo q", api.ErrTwice, 0},
}

var closingCircles = []struct{ line, circle string }{
	{"set n = n", "n"}, {"set n = oo", "n oo"}, {"set n = y", "n y s oo"}, {"set oo = s + n", "oo s"}, {"set m = r", "m r"}, {"set q = m", "m q"}, {"set x = z", "x z"},
	{"rename r nnnnnn", "nnnnnn m q"},
}

// inErrors is an editor that keeps so many edits, behind the edits of a group that is open. One edit ahead of
// it is left to be done again, if any is kept. What there was at its begin is told too.
func inErrors(t *testing.T, undo int, group []string) (*Editor, string) {
	t.Helper()
	e := keeping(t, undo, aheadOfErrors...)
	if undo > 0 {
		expect(t, e, "undo", api.Reply{})
	} else {
		expectNames(t, e, "set v = 1", "v")
	}
	was := everything(e)
	keepOn(t, e, append([]string{"begin"}, group...)...)
	return e, was
}

// expectClosedByError asks for what there is behind a line that closed the group.
func expectClosedByError(t *testing.T, e *Editor, undo int, line, was string) {
	t.Helper()
	expectSame(t, e, line, was)
	expectClosed(t, e)
	if undo > 0 {
		expectNamesOfList(t, e, "redo", "m n o q r u")
		expectNamesOfList(t, e, "undo", "m n o q r u v")
	}
	expectSame(t, e, line, was)
	for range undo - 1 {
		expect(t, e, "undo", api.Reply{})
	}
	expectRefused(t, e, "undo", api.ErrEmpty, 0)
	if t.Failed() {
		t.Fatalf("so with New(%d) and %q", undo, line)
	}
}

// expectNamesOfList does an undo or a redo, and asks for the fields that there are then.
func expectNamesOfList(t *testing.T, e *Editor, line, names string) {
	t.Helper()
	expect(t, e, line, api.Reply{})
	if got := strings.Join(slices.Sorted(slices.Values(e.Do("order").Names)), " "); got != names {
		t.Errorf("behind %s there are %s, want %s", line, got, names)
	}
}

func TestP7ErrorsThatCloseAGroup(t *testing.T) {
	for _, undo := range []int{0, 1, 6} {
		for _, c := range closingLines {
			e, was := inErrors(t, undo, groupOfErrors)
			expect(t, e, c.line, api.Reply{Err: c.errno, At: c.at})
			expectClosedByError(t, e, undo, c.line, was)
		}
		for _, c := range closingCircles {
			e, was := inErrors(t, undo, groupOfErrors)
			expectOneOfItsTurns(t, e, c.line, c.circle)
			expectClosedByError(t, e, undo, c.line, was)
		}
	}
}

// expectOneOfItsTurns asks for a circle, told from any of its fields on.
func expectOneOfItsTurns(t *testing.T, e *Editor, line, circle string) {
	t.Helper()
	got := e.Do(line)
	names := strings.Fields(circle)
	at := slices.Index(names, slices.Concat(got.Names, []string{""})[0])
	if want := slices.Concat(names[max(at, 0):], names[:max(at, 0)]); !same(got, api.Reply{Err: api.ErrCycle, Names: want}) {
		t.Errorf("Do(%q) = %+v, want ErrCycle and %s", line, got, circle)
	}
}

func TestP7ErrorsThatCloseAGroupOfNoEdit(t *testing.T) {
	for _, undo := range []int{0, 1, 6} {
		for _, line := range []string{"set", "set n = -------1", "set n = 1" + strings.Repeat("+1", 25), "delete nobody", "rename n q", "rename m mm", "set n = n", "set q = m", "delete", "rename"} {
			e, was := inErrors(t, undo, nil)
			if r := e.Do(line); r.Err == api.OK {
				t.Errorf("Do(%q) = %+v", line, r)
			}
			expectClosedByError(t, e, undo, line, was)
		}
	}
}

// The same line is no error behind the group that it closed, where it was one by the group's own edits.
func TestP7TheLineThatClosedAGroupCanBeDoneBehindIt(t *testing.T) {
	for _, c := range []struct {
		group, line string
		errno       api.Errno
		names       string
	}{
		{"set d = b", "set a = d", api.ErrCycle, "a b"},
		{"set a = q", "rename b q", api.ErrCycle, "q"},
		{"delete a", "delete a", api.ErrName, "b"},
		{"delete a", "rename a z", api.ErrName, "z b"},
		{"rename a c", "delete a", api.ErrName, "b"},
		{"set z = 1", "rename a z", api.ErrTwice, "z b"},
		{"set r = a" + strings.Repeat(" + a", 24), "rename a aa", api.ErrLimit, "aa b"},
	} {
		e := keeping(t, 3, "set a = 1", "set b = a", "begin", c.group)
		if r := e.Do(c.line); r.Err != c.errno {
			t.Errorf("Do(%q) = %+v, want %d", c.line, r, c.errno)
		}
		expectClosed(t, e)
		expectNames(t, e, c.line, c.names)
		expectClosed(t, e)
	}
}

var leavingLines = []wrongLine{
	{"set n = $", api.ErrToken, 8}, {"set n = 1 abcdefg", api.ErrToken, 10}, {"set n = (((((((?", api.ErrToken, 15}, {"set ?", api.ErrToken, 4}, {"delete N", api.ErrToken, 7}, {"rename n n\n", api.ErrToken, 10}, {"set n = 9223372036854775808", api.ErrToken, 8}, {"settttt", api.ErrToken, 0},
	{"set n = 1" + strings.Repeat(" ", 112), api.ErrLong, 0}, {"set" + strings.Repeat("?", 118), api.ErrLong, 0}, {"delete nobody" + strings.Repeat(" ", 108), api.ErrLong, 0}, {"rename" + strings.Repeat(" n", 58), api.ErrLong, 0},
	{"", api.ErrSyntax, 0}, {"   ", api.ErrSyntax, 3}, {"what", api.ErrSyntax, 0}, {"sets n = 1", api.ErrSyntax, 0}, {"se t n = 1", api.ErrSyntax, 0}, {"set1 n", api.ErrSyntax, 0}, {"n set", api.ErrSyntax, 0}, {"1 set n = 1", api.ErrSyntax, 0}, {"= set", api.ErrSyntax, 0}, {"not delete n", api.ErrSyntax, 0}, {"if", api.ErrSyntax, 0}, {"(((((((", api.ErrSyntax, 0}, {"-set", api.ErrSyntax, 0},
	{"begin", api.ErrOpen, 0}, {"begin 1", api.ErrSyntax, 6}, {"begin set", api.ErrSyntax, 6}, {"commit n", api.ErrSyntax, 7}, {"commit commit", api.ErrSyntax, 7}, {"cancel 1", api.ErrSyntax, 7}, {"cancel set", api.ErrSyntax, 7},
	{"undo", api.ErrOpen, 0}, {"redo", api.ErrOpen, 0}, {"undo 1", api.ErrSyntax, 5}, {"redo set", api.ErrSyntax, 5},
	{"value nobody", api.ErrName, 0}, {"value u", api.ErrName, 0}, {"value", api.ErrSyntax, 5}, {"value set 1", api.ErrSyntax, 10}, {"value set", api.ErrName, 0},
	{"rule nobody", api.ErrName, 0}, {"rule o", api.ErrName, 0}, {"rule", api.ErrSyntax, 4}, {"rule delete", api.ErrName, 0},
	{"list 1", api.ErrSyntax, 5}, {"list set", api.ErrSyntax, 5}, {"order n", api.ErrSyntax, 6},
}

func TestP7ErrorsThatLeaveAGroupOpen(t *testing.T) {
	for _, undo := range []int{0, 1, 6} {
		for _, c := range leavingLines {
			for _, end := range []string{"commit", "cancel"} {
				e, was := inErrors(t, undo, groupOfErrors)
				expectRefused(t, e, c.line, c.errno, c.at)
				expectOpen(t, e)
				expectNames(t, e, "set w = n", "w")
				expectRefused(t, e, c.line, c.errno, c.at)
				within := everything(e)
				expect(t, e, end, api.Reply{})
				if end == "commit" {
					expectSame(t, e, end, within)
					expectRefused(t, e, "redo", api.ErrEmpty, 0)
					if undo > 0 {
						expect(t, e, "undo", api.Reply{})
					}
				}
				if end == "cancel" || undo > 0 {
					expectSame(t, e, end, was)
				}
				expectClosed(t, e)
				if t.Failed() {
					t.Fatalf("so with New(%d), %q and %s", undo, c.line, end)
				}
			}
		}
	}
}

func TestP7ManyErrorsThatLeaveAGroupOpen(t *testing.T) {
	e, _ := inErrors(t, 2, groupOfErrors)
	for _, c := range leavingLines {
		expectRefused(t, e, c.line, c.errno, c.at)
	}
	expectOpen(t, e)
	expect(t, e, "commit", api.Reply{})
}

// While none is open, a line with an error closes nothing, and takes nothing back.
func TestP7ErrorsWhileNoneIsOpen(t *testing.T) {
	e, _ := inErrors(t, 3, groupOfErrors)
	expect(t, e, "commit", api.Reply{})
	for _, c := range closingLines {
		expectRefused(t, e, c.line, c.errno, c.at)
	}
	for _, c := range closingCircles {
		expectCircle(t, e, c.line, c.circle)
	}
	expectClosed(t, e)
}

func TestP7AGroupOfManyEdits(t *testing.T) {
	for _, undo := range []int{0, 6} {
		e := keeping(t, undo, "set a = 0", "set b = a")
		was := everything(e)
		for _, end := range []string{"cancel", "delete nobody", "commit"} {
			expect(t, e, "begin", api.Reply{})
			for n := range 1000 {
				expectNames(t, e, "set a = "+strconv.Itoa(n), "a b")
			}
			e.Do(end)
			if end != "commit" {
				expectSame(t, e, end, was)
			}
		}
		expectValue(t, e, "b", api.Int, 999)
		if undo > 0 {
			expect(t, e, "undo", api.Reply{})
			expectSame(t, e, "undo", was)
		}
	}
}
