package fields

import (
	"slices"
	"strings"
	"testing"

	"fields/api"
)

// expectCircle asks for a circle, told from any of its fields on, and that nothing is changed.
func expectCircle(t *testing.T, e *Editor, line, circle string) {
	t.Helper()
	before := everything(e)
	got := e.Do(line)
	names := strings.Fields(circle)
	for range names {
		if slices.Equal(got.Names, names) {
			break
		}
		names = append(names[1:], names[0])
	}
	if !same(got, api.Reply{Err: api.ErrCycle, Names: names}) {
		t.Errorf("Do(%q) = %+v, want ErrCycle and %s", line, got, circle)
	}
	if now := everything(e); now != before {
		t.Errorf("Do(%q) changes\n%s\nto\n%s", line, before, now)
	}
}

// expectBehind asks for names of which each stands behind all of them that its rule mentions.
func expectBehind(t *testing.T, e *Editor, line, names string) {
	t.Helper()
	r := e.Do(line)
	sorted := slices.Sorted(slices.Values(r.Names))
	if !same(api.Reply{Err: r.Err, At: r.At, Text: r.Text, Names: sorted, Kind: r.Kind, N: r.N}, api.Reply{Names: strings.Fields(names)}) {
		t.Errorf("Do(%q) = %+v, want %s in some order", line, r, names)
	}
	if name, ok := firstAheadOfItsMentions(r.Names, func(name string) string { return e.Do("rule " + name).Text }); ok {
		t.Errorf("Do(%q): %v: %s stands ahead of one that it mentions", line, r.Names, name)
	}
}

func firstAheadOfItsMentions(names []string, rule func(string) string) (string, bool) {
	for i, name := range names {
		for _, mentioned := range mentionedIn(rule(name)) {
			if slices.Contains(names[i:], mentioned) {
				return name, true
			}
		}
	}
	return "", false
}

func mentionedIn(rule string) []string {
	words := strings.FieldsFunc(rule, func(r rune) bool { return strings.ContainsRune(" (),+-*/%=<", r) })
	return slices.DeleteFunc(words, func(word string) bool {
		return word[0] <= '9' || slices.Contains([]string{"if", "and", "or", "not", "true", "false"}, word)
	})
}

func TestP5Set(t *testing.T) {
	e := editor(t)
	expectNames(t, e, "  set   a=1+  02 ", "a")
	expect(t, e, "rule a", api.Reply{Text: "1 + 2"})
	expectNames(t, e, "set a = b", "a")
	expect(t, e, "rule a", api.Reply{Text: "b"})
	expectNames(t, e, "set c = a", "c")
	expectNames(t, e, "set b = 1", "b a c")
	expectNames(t, e, "set a = 2", "a c")
	expectNames(t, e, "set b = 3", "b")
	expectNames(t, e, "set a = (a1 = 1) = true", "a c")
	expect(t, e, "list", api.Reply{Text: "a = (a1 = 1) = true\nb = 3\nc = a\n"})
}

func TestP5Delete(t *testing.T) {
	e := editor(t, "set a = 1", "set b = a", "set c = b", "set d = 2")
	expectNames(t, e, "delete b", "c")
	expect(t, e, "rule c", api.Reply{Text: "b"})
	expectRefused(t, e, "rule b", api.ErrName, 0)
	expectRefused(t, e, "value b", api.ErrName, 0)
	expectRefused(t, e, "delete b", api.ErrName, 0)
	expectNames(t, e, "delete d", "")
	expectNames(t, e, "delete a", "")
	expect(t, e, "list", api.Reply{Text: "c = b\n"})
	expectNames(t, e, "delete c", "")
	expect(t, e, "list", api.Reply{})
	expect(t, e, "order", api.Reply{})
}

func TestP5DeleteTellsAllThatHangOnIt(t *testing.T) {
	e := editor(t, "set z = 1", "set y = z", "set x = y + z", "set w = x", "set v = 1")
	expectNames(t, e, "delete z", "y x w")
}

func TestP5Rename(t *testing.T) {
	e := editor(t, "set a = 1", "set b = a + ab - a", "set c = if(a, not a, -a)", "set d = c", "set ab = 2", "set f = new")
	expectBehind(t, e, "rename a new", "b c d f new")
	expect(t, e, "list", api.Reply{Text: "ab = 2\nb = new + ab - new\nc = if(new, not new, -new)\nd = c\nf = new\nnew = 1\n"})
	expectRefused(t, e, "value a", api.ErrName, 0)
	expectNames(t, e, "set a = 5", "a")
	expectNames(t, e, "rename d e", "e")
	expectNames(t, e, "rename ab d", "d b")
}

func TestP5RenameTellsWhatMentionedEitherName(t *testing.T) {
	e := editor(t, "set a = 1", "set b = a", "set c = n", "set d = b + c", "set e = 2")
	expectBehind(t, e, "rename a n", "b c d n")
	expect(t, e, "value c", api.Reply{Kind: api.Int, N: 1})
	expect(t, e, "value d", api.Reply{Kind: api.Int, N: 2})
	// What mentions a name that no field has hangs on nothing of it any more.
	expectNames(t, e, "rename e a", "a")
	expect(t, e, "value b", api.Reply{Kind: api.Int, N: 1})
}

func TestP5RenameThereAndBack(t *testing.T) {
	e := editor(t, "set a = 1", "set b = a * a", "set c = b + other")
	list := e.Do("list")
	expectNames(t, e, "rename a tmp", "tmp b c")
	expect(t, e, "value b", api.Reply{Kind: api.Int, N: 1})
	expectNames(t, e, "rename tmp a", "a b c")
	expect(t, e, "list", list)
}

func TestP5NamesLikeTheWordsAtTheHeads(t *testing.T) {
	for _, word := range []string{"set", "delete", "rename", "begin", "commit", "cancel", "undo", "redo", "value", "rule", "list", "order"} {
		e := editor(t)
		expectNames(t, e, "set "+word+" = 1", word)
		expectNames(t, e, "set x = "+word+" + 1", "x")
		expect(t, e, "value x", api.Reply{Kind: api.Int, N: 2})
		expect(t, e, "value "+word, api.Reply{Kind: api.Int, N: 1})
		expect(t, e, "rule "+word, api.Reply{Text: "1"})
		expectNames(t, e, "rename "+word+" y", "y x")
		expectNames(t, e, "rename y "+word, word+" x")
		expectNames(t, e, "order", word+" x")
		expectNames(t, e, "delete "+word, "x")
	}
}

func TestP5NamesAllHanging(t *testing.T) {
	e := editor(t, "set e = d + b", "set d = c + b", "set c = a", "set b = a", "set f = g")
	expectBehind(t, e, "set a = 1", "a b c d e")
	expectBehind(t, e, "order", "a b c d e f")
	expectBehind(t, e, "set g = e", "f g")
	expectBehind(t, e, "order", "a b c d e f g")
	expectBehind(t, e, "set a = 2", "a b c d e f g")
	expectBehind(t, e, "set d = 1", "d e f g")
	expectBehind(t, e, "set c = e", "c")
	expectBehind(t, e, "order", "a b c d e f g")
	expectBehind(t, e, "rename b h", "c e f g h")
	expectBehind(t, e, "order", "a c d e f g h")
	expectBehind(t, e, "delete h", "c e f g")
	expectBehind(t, e, "order", "a c d e f g")
}

func TestP5HangsOnWhatIsNotLookedAt(t *testing.T) {
	e := editor(t, "set b = if(true, 1, a)", "set c = false and b")
	expectNames(t, e, "set a = 1", "a b c")
	expectNames(t, e, "delete a", "b c")
	expectCircle(t, e, "set a = b", "a b")
}

func TestP5CirclesBySet(t *testing.T) {
	e := editor(t)
	for _, rule := range []string{"a", "-a", "(a)", "1 + a", "if(true, 1, a)", "false and a", "not a", "b = a", "if(a, b, c)"} {
		expectCircle(t, e, "set a = "+rule, "a")
	}
	e = editor(t, "set a = b", "set b = c", "set c = d", "set x = a", "set e = 1")
	expectCircle(t, e, "set d = a", "d a b c")
	expectCircle(t, e, "set d = e + c", "d c")
	expectCircle(t, e, "set d = x", "d x a b c")
	expectCircle(t, e, "set d = d", "d")
	expectCircle(t, e, "set c = b", "c b")
	expectCircle(t, e, "set b = nobody + x", "b x a")
	expectNames(t, e, "set d = e", "d c b a x")
	expectCircle(t, e, "set e = x", "e x a b c d")
	expectNames(t, e, "delete c", "b a x")
	expectNames(t, e, "set d = a", "d")
	expectCircle(t, e, "set c = d", "c d a b")
	expectBehind(t, e, "set c = e", "a b c d x")
}

func TestP5CirclesByRename(t *testing.T) {
	e := editor(t, "set a = n", "set m = a", "set z = m")
	expectCircle(t, e, "rename m n", "n a")
	expectCircle(t, e, "rename z n", "n m a")
	expectCircle(t, e, "rename a n", "n")
	expectNames(t, e, "rename a q", "q m z")
	expectCircle(t, e, "rename m n", "n q")
	expectNames(t, e, "set n = 4", "n q m z")
	expectNames(t, e, "delete n", "q m z")
	expectNames(t, e, "set q = 1", "q m z")
	expectNames(t, e, "rename m n", "n z")

	// What mentions the old name mentions the new one then, and is in no circle.
	f := editor(t, "set a = n", "set b = a", "set m = b", "set o = m + n")
	expectCircle(t, f, "rename m n", "n b a")
	expectNames(t, f, "rename m k", "k o")
}

func TestP5NamesThatAreNoFieldsAreInNoCircle(t *testing.T) {
	e := editor(t, "set a = x + y", "set b = x + y + a", "set c = y")
	expectNames(t, e, "set d = b + x", "d")
	expectNames(t, e, "rename d z", "z")
	expectNames(t, e, "delete a", "b z")
	expectNames(t, e, "set c = a + z", "c")
}
