package fields

import (
	"math/rand"
	"slices"
	"strconv"
	"strings"
	"testing"

	"fields/api"
)

// rulesAndValues is what is brought back. Of orders several may be right.
func rulesAndValues(e *Editor) string {
	all := e.Do("list").Text
	for _, name := range slices.Sorted(slices.Values(e.Do("order").Names)) {
		v := e.Do("value " + name)
		all += name + ": " + e.Do("rule "+name).Text + ": " + strconv.Itoa(v.Kind) + " " + strconv.FormatInt(v.N, 10) + "\n"
	}
	return all
}

// expectBrought does an undo or a redo, and asks what there is then.
func expectBrought(t *testing.T, e *Editor, line, want string) {
	t.Helper()
	expect(t, e, line, api.Reply{})
	if now := rulesAndValues(e); now != want {
		t.Errorf("behind %s there is\n%swant\n%s", line, now, want)
	}
	expectAllInOrder(t, e)
}

func expectAllInOrder(t *testing.T, e *Editor) {
	t.Helper()
	var names []string
	for line := range strings.Lines(e.Do("list").Text) {
		name, _, _ := strings.Cut(line, " ")
		names = append(names, name)
	}
	expectBehind(t, e, "order", strings.Join(names, " "))
}

// states tells what there is ahead of some edits, and behind each of them.
func states(t *testing.T, e *Editor, edits ...string) []string {
	t.Helper()
	all := []string{rulesAndValues(e)}
	for _, line := range edits {
		if r := e.Do(line); r.Err != api.OK {
			t.Fatalf("Do(%q) = %+v", line, r)
		}
		all = append(all, rulesAndValues(e))
	}
	return all
}

func TestP8EachKindOfEdit(t *testing.T) {
	for _, c := range []struct {
		ahead []string
		edit  string
	}{
		{nil, "set a = 1"},
		{[]string{"set b = 2"}, "set a = b / 0"},
		{[]string{"set b = a + 1", "set c = b * a"}, "set a = 1"},
		{[]string{"set b = a + 1", "set c = 7"}, "set a = c"},
		{[]string{"set a = 1"}, "set a = true"},
		{[]string{"set a = 1"}, "set a = 1"},
		{[]string{"set a = 1", "set b = a + 1", "set c = b * a"}, "set a = 5"},
		{[]string{"set a = 1", "set b = a + 1", "set c = 7"}, "set a = c"},
		{[]string{"set c = 7", "set a = c", "set b = a + 1"}, "set a = nobody"},
		{[]string{"set a = 1"}, "delete a"},
		{[]string{"set b = 1", "set a = b", "set c = 2"}, "delete a"},
		{[]string{"set b = a + 1", "set a = 3", "set c = b * a"}, "delete a"},
		{[]string{"set a = 1"}, "rename a n"},
		{[]string{"set a = 1", "set b = if(a = 1, -a, a)", "set c = b"}, "rename a n"},
		{[]string{"set b = n + 1", "set a = 4", "set c = b"}, "rename a n"},
		{[]string{"set b = n + a + n", "set a = 4", "set c = b + a", "set d = n"}, "rename a n"},
	} {
		e := keeping(t, 1, c.ahead...)
		all := states(t, e, c.edit)
		for range 3 {
			expectBrought(t, e, "undo", all[0])
			expectRefused(t, e, "undo", api.ErrEmpty, 0)
			expectBrought(t, e, "redo", all[1])
			expectRefused(t, e, "redo", api.ErrEmpty, 0)
		}
		if t.Failed() {
			t.Fatalf("so behind %q, of %q", c.ahead, c.edit)
		}
	}
}

func TestP8RulesAreAsTheyWere(t *testing.T) {
	e := keeping(t, 6, "set b = n + a", "set a = 4", "rename a n", "delete n", "set n = 5", "set n = true")
	for _, want := range []struct {
		list    string
		kind, n int
	}{
		{"b = n + n\nn = 5\n", api.Int, 10},
		{"b = n + n\n", api.Error, api.Name},
		{"b = n + n\nn = 4\n", api.Int, 8},
		{"a = 4\nb = n + a\n", api.Error, api.Name},
		{"b = n + a\n", api.Error, api.Name},
	} {
		expect(t, e, "undo", api.Reply{})
		expect(t, e, "list", api.Reply{Text: want.list})
		expectValue(t, e, "b", want.kind, int64(want.n))
	}
	expect(t, e, "undo", api.Reply{})
	expect(t, e, "list", api.Reply{})
	for range 6 {
		expect(t, e, "redo", api.Reply{})
	}
	expect(t, e, "list", api.Reply{Text: "b = n + n\nn = true\n"})
	expectValue(t, e, "b", api.Error, api.Type)
}

var someEdits = []string{
	"set a = b + 1", "set b = 2", "set c = a * b", "set b = 3", "rename b x", "set d = c",
	"delete x", "set x = y", "set y = 8", "rename c x2", "set x = 1", "set y = d", "delete d",
}

func TestP8SeveralInARowAndBack(t *testing.T) {
	for n := range len(someEdits) - api.MaxUndo + 1 {
		e := keeping(t, api.MaxUndo, someEdits[:n]...)
		all := states(t, e, someEdits[n:n+api.MaxUndo]...)
		at := api.MaxUndo
		for _, to := range []int{0, 6, 3, 5, 1, 2, 0, 1, 0, 6} {
			for ; at > to; at-- {
				expectBrought(t, e, "undo", all[at-1])
			}
			for ; at < to; at++ {
				expectBrought(t, e, "redo", all[at+1])
			}
		}
		expectRefused(t, e, "redo", api.ErrEmpty, 0)
	}
}

func TestP8AsManyAsNewWasTold(t *testing.T) {
	for undo := range api.MaxUndo + 1 {
		e := keeping(t, undo)
		all := states(t, e, someEdits...)
		for range 2 {
			for n := range undo {
				expectBrought(t, e, "undo", all[len(someEdits)-1-n])
			}
			expectRefused(t, e, "undo", api.ErrEmpty, 0)
			expectRefused(t, e, "undo", api.ErrEmpty, 0)
			for n := range undo {
				expectBrought(t, e, "redo", all[len(someEdits)-undo+1+n])
			}
			expectRefused(t, e, "redo", api.ErrEmpty, 0)
			expectRefused(t, e, "redo", api.ErrEmpty, 0)
		}
	}
}

func TestP8FewerThanNewWasTold(t *testing.T) {
	e := keeping(t, 6, "set a = 1", "set b = 2")
	expect(t, e, "undo", api.Reply{})
	expect(t, e, "undo", api.Reply{})
	expectRefused(t, e, "undo", api.ErrEmpty, 0)
	expect(t, e, "list", api.Reply{})
}

func TestP8NothingAtOnce(t *testing.T) {
	for undo := range api.MaxUndo + 1 {
		e := keeping(t, undo)
		expectRefused(t, e, "undo", api.ErrEmpty, 0)
		expectRefused(t, e, " redo ", api.ErrEmpty, 0)
		expectRefused(t, e, "undo 1", api.ErrSyntax, 5)
		expectRefused(t, e, "redo a", api.ErrSyntax, 5)
		if undo > 0 {
			// An undo without an edit leaves nothing to be done again.
			expectNames(t, e, "set a = 1", "a")
			expectRefused(t, e, "redo", api.ErrEmpty, 0)
			expect(t, e, "undo", api.Reply{})
			expect(t, e, "list", api.Reply{})
		}
	}
}

func TestP8NothingIsKeptByTheEditorOf0(t *testing.T) {
	e := keeping(t, 0)
	for _, line := range someEdits {
		e.Do(line)
		expectRefused(t, e, "undo", api.ErrEmpty, 0)
		expectRefused(t, e, "redo", api.ErrEmpty, 0)
	}
}

// Lines that are no edits: each with an error of its own, and those that ask.
var noEdits = []string{
	strings.Repeat("?", 121), "set a = ?", "set a = 1 1", "what", "undo undo", "redo 1", "set a = -------1", "delete nobody", "rename nobody x9",
	"value nobody", "rule nobody", "rename a a", "set a = 1" + strings.Repeat("+1", 40), "set a = a", "rename a b 1", "value a", "rule a", "list", "order",
}

func TestP8ALineThatIsNoEdit(t *testing.T) {
	for _, line := range noEdits {
		e := keeping(t, 2, "set b = 1", "set a = 1")
		all := states(t, e, "set a = b", "set c = a", "set c = 3", "delete b")
		e.Do(line)
		expectRefused(t, e, "redo", api.ErrEmpty, 0)
		expectBrought(t, e, "undo", all[3])
		e.Do(line)
		expectBrought(t, e, "redo", all[4])
		expectBrought(t, e, "undo", all[3])
		e.Do(line)
		expectBrought(t, e, "undo", all[2])
		e.Do(line)
		expectRefused(t, e, "undo", api.ErrEmpty, 0)
		e.Do(line)
		expectBrought(t, e, "redo", all[3])
		expectBrought(t, e, "redo", all[4])
		expectRefused(t, e, "redo", api.ErrEmpty, 0)
	}
}

func TestP8ErrorsOfLimitAndCycleAreNoEdits(t *testing.T) {
	e := keeping(t, 1, "set q = nnn", "set m = q", "set r = m"+strings.Repeat(" + m", 24))
	for n := range api.MaxFields - 3 {
		e.Do("set n" + strconv.Itoa(n) + " = r")
	}
	all := states(t, e, "set n1 = 5")
	for range 2 {
		expectRefused(t, e, "set more = 1", api.ErrLimit, 0)
		expectRefused(t, e, "rename m mm", api.ErrLimit, 0)
		expectCircle(t, e, "set q = n2", "q n2 r m")
		expectCircle(t, e, "rename r nnn", "nnn m q")
		expectBrought(t, e, "undo", all[0])
		expectRefused(t, e, "set more = 1", api.ErrLimit, 0)
		expectRefused(t, e, "rename m mm", api.ErrLimit, 0)
		expectCircle(t, e, "set q = n2", "q n2 r m")
		expectCircle(t, e, "rename r nnn", "nnn m q")
		expectBrought(t, e, "redo", all[1])
	}
}

func TestP8ANewEditLeavesNothingToBeDoneAgain(t *testing.T) {
	for _, line := range []string{"set c = 9", "set a = b", "set a = 1", "delete a", "delete b", "rename a x", "rename b c"} {
		for undone := 1; undone < 4; undone++ {
			e := keeping(t, 6, "set a = 1", "set b = 2")
			all := states(t, e, "set a = 3", "set a = 4", "set a = 5")
			for range undone {
				e.Do("undo")
			}
			if r := e.Do(line); r.Err != api.OK {
				t.Fatalf("Do(%q) = %+v", line, r)
			}
			behind := rulesAndValues(e)
			expectRefused(t, e, "redo", api.ErrEmpty, 0)
			expectBrought(t, e, "undo", all[3-undone])
			expectBrought(t, e, "redo", behind)
			expectRefused(t, e, "redo", api.ErrEmpty, 0)
			expectBrought(t, e, "undo", all[3-undone])
			for n := 3 - undone; n > 0; n-- {
				expectBrought(t, e, "undo", all[n-1])
			}
			expectBrought(t, e, "undo", "a = 1\na: 1: 1 1\n")
			expectBrought(t, e, "undo", "")
			expectRefused(t, e, "undo", api.ErrEmpty, 0)
		}
	}
}

func TestP8ANewEditWhenAllWereTakenBack(t *testing.T) {
	e := keeping(t, 2, "set a = 1", "set a = 2", "set a = 3", "undo", "undo", "set b = a")
	expectRefused(t, e, "redo", api.ErrEmpty, 0)
	expect(t, e, "undo", api.Reply{})
	expectRefused(t, e, "undo", api.ErrEmpty, 0)
	expect(t, e, "list", api.Reply{Text: "a = 1\n"})
	expect(t, e, "redo", api.Reply{})
	expect(t, e, "list", api.Reply{Text: "a = 1\nb = a\n"})
}

func TestP8AnEditDoneAgainIsKeptAgain(t *testing.T) {
	e := keeping(t, 2, "set a = 1", "set a = 2", "undo", "redo", "set a = 3")
	expect(t, e, "undo", api.Reply{})
	expect(t, e, "undo", api.Reply{})
	expect(t, e, "list", api.Reply{Text: "a = 1\n"})
	expectRefused(t, e, "undo", api.ErrEmpty, 0)
}

func TestP8AnEditBehindAnUndoWhereTheOrderHadBeenMended(t *testing.T) {
	e := keeping(t, 6, "set a = 1", "set b = 2", "set c = a + b")
	expectNames(t, e, "set a = b", "a c")
	expectNames(t, e, "order", "b a c")
	expect(t, e, "undo", api.Reply{})
	expectAllInOrder(t, e)
	expectNames(t, e, "set b = a", "b c")
	expectNames(t, e, "order", "a b c")
	expectValue(t, e, "c", api.Int, 2)
	expectCircle(t, e, "set a = b", "a b")
	expectCircle(t, e, "set a = c", "a c")
	expect(t, e, "undo", api.Reply{})
	expectNames(t, e, "set a = b + 1", "a c")
	expectNames(t, e, "order", "b a c")
	expectCircle(t, e, "set b = a", "a b")
	expectValue(t, e, "c", api.Int, 5)

	f := keeping(t, 6, "set x = n", "set y = x", "set m = 1", "set z = m")
	expectNames(t, f, "rename m n", "n x y z")
	expectAllInOrder(t, f)
	expect(t, f, "undo", api.Reply{})
	expectAllInOrder(t, f)
	expectNames(t, f, "set m = y", "m z")
	expectCircle(t, f, "rename z n", "n m y x")
	expectNames(t, f, "set n = 3", "n x y m z")
	expectAllInOrder(t, f)
	expectValue(t, f, "z", api.Int, 3)
}

func TestP8AnEditBehindARedoWhereTheOrderHadBeenMended(t *testing.T) {
	e := keeping(t, 6, "set a = 1", "set b = 2", "set c = a + b", "set a = b", "undo", "redo")
	expectCircle(t, e, "set b = a", "a b")
	expectCircle(t, e, "set b = c", "b c")
	expectNames(t, e, "set b = 7", "b a c")
	expectValue(t, e, "c", api.Int, 14)
	expectNames(t, e, "set d = c", "d")
	expectAllInOrder(t, e)
	expectCircle(t, e, "set b = d", "b d c")
}

func TestP8RoomForFields(t *testing.T) {
	e := keeping(t, 3)
	for n := range api.MaxFields {
		e.Do("set n" + strconv.Itoa(n) + " = 1")
	}
	expect(t, e, "undo", api.Reply{})
	expectNames(t, e, "set more = 1", "more")
	expectRefused(t, e, "set n9 = 1", api.ErrLimit, 0)
	expectNames(t, e, "delete n4", "")
	expect(t, e, "undo", api.Reply{})
	expectRefused(t, e, "set n9 = 1", api.ErrLimit, 0)
	expect(t, e, "redo", api.Reply{})
	expectNames(t, e, "set n9 = 1", "n9")
	expectRefused(t, e, "set n4 = 1", api.ErrLimit, 0)
}

func TestP8AFieldThatWasDroppedAndMadeAgain(t *testing.T) {
	e := keeping(t, 6, "set a = 1", "set b = a")
	all := states(t, e, "delete a", "set a = 5", "set a = 6", "rename a c")
	for range 2 {
		for n := 3; n >= 0; n-- {
			expectBrought(t, e, "undo", all[n])
		}
		for n := range 4 {
			expectBrought(t, e, "redo", all[n+1])
		}
	}
}

func TestP9RenameThereAndBackIsTwoEdits(t *testing.T) {
	e := keeping(t, 6, "set a = 1", "set b = a * a", "set c = b + other")
	all := states(t, e, "rename a tmp", "rename tmp a")
	if all[0] != all[2] {
		t.Errorf("%s, was\n%s", all[2], all[0])
	}
	expectBrought(t, e, "undo", all[1])
	expectBrought(t, e, "undo", all[0])
	expectBrought(t, e, "redo", all[1])
	expectBrought(t, e, "redo", all[2])
}

func TestP2UndoOfOneEditorAlone(t *testing.T) {
	e := keeping(t, 2, "set a = 1", "set b = a")
	f := keeping(t, 2, "set a = 1", "set b = a")
	g := keeping(t, 2)
	was := everything(f)
	expect(t, e, "undo", api.Reply{})
	expect(t, e, "undo", api.Reply{})
	expectRefused(t, f, "redo", api.ErrEmpty, 0)
	expectRefused(t, g, "undo", api.ErrEmpty, 0)
	expectRefused(t, g, "redo", api.ErrEmpty, 0)
	if now := everything(f); now != was {
		t.Errorf("there is\n%s\nwas\n%s", now, was)
	}
	expect(t, f, "undo", api.Reply{})
	expect(t, f, "undo", api.Reply{})
	expect(t, e, "redo", api.Reply{})
	expect(t, e, "list", api.Reply{Text: "a = 1\n"})
	expect(t, f, "list", api.Reply{})
}

// keptRules is an editor of another make: it has all rules that there were, and goes back and forth among them.
type keptRules struct {
	most int
	all  []plainRules
	at   int
}

func (k *keptRules) keep(rules plainRules) {
	k.all = append(slices.Clone(k.all[:k.at+1]), rules)
	k.all = k.all[max(0, len(k.all)-k.most-1):]
	k.at = len(k.all) - 1
}

func (k *keptRules) turn(line string) api.Errno {
	to := k.at + map[string]int{"undo": -1, "redo": 1}[line]
	if to < 0 || to == len(k.all) {
		return api.ErrEmpty
	}
	k.at = to
	return api.OK
}

func TestP8DrawnLines(t *testing.T) {
	names := []string{"a", "b", "ab", "c1", "undo", "x", "yy", "zzzzzz", "redo", "k", "n0", "p"}
	counts := map[api.Errno]int{}
	turns := map[string]int{}
	for seed := range 350 {
		random := rand.New(rand.NewSource(int64(seed)))
		d := drawer{random, names[:3+random.Intn(len(names)-2)]}
		k := keptRules{most: seed % (api.MaxUndo + 1), all: []plainRules{{}}}
		e := keeping(t, k.most)
		for range 80 {
			line := d.one(d.line(), d.line(), "undo", "redo", d.one("undo", "redo"))
			if len(line) > api.MaxLine {
				continue
			}
			if line != "undo" && line != "redo" {
				next, errno := follow(t, e, k.all[k.at], line)
				counts[errno]++
				if errno == api.OK {
					k.keep(next)
				}
				continue
			}
			want := api.Reply{Err: k.turn(line)}
			if got := e.Do(line); !same(got, want) {
				t.Fatalf("%s%s: %+v, want %+v", k.all[k.at].list(), line, got, want)
			}
			checkAll(t, e, k.all[k.at])
			turns[line+strconv.Itoa(int(want.Err))]++
		}
	}
	for _, errno := range []api.Errno{api.OK, api.ErrName, api.ErrTwice, api.ErrLimit, api.ErrCycle} {
		if counts[errno] < 100 {
			t.Errorf("only %d lines with %d among them", counts[errno], errno)
		}
	}
	for _, turn := range []string{"undo0", "redo0", "undo11", "redo11"} {
		if turns[turn] < 500 {
			t.Errorf("only %d times %s", turns[turn], turn)
		}
	}
}
