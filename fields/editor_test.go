package fields

import (
	"math"
	"slices"
	"strconv"
	"strings"
	"testing"

	"fields/api"
)

// editor is a new one that keeps no edit, behind some lines that must all be done.
func editor(t *testing.T, lines ...string) *Editor {
	t.Helper()
	return keeping(t, 0, lines...)
}

// keeping is a new editor that keeps so many edits, behind some lines that must all be done.
func keeping(t *testing.T, undo int, lines ...string) *Editor {
	t.Helper()
	e, errno := New(undo)
	if e == nil || errno != api.OK {
		t.Fatalf("New(%d) = %v, %d", undo, e, errno)
	}
	for _, line := range lines {
		if r := e.Do(line); r.Err != api.OK {
			t.Fatalf("Do(%q) = %+v", line, r)
		}
	}
	return e
}

func same(a, b api.Reply) bool {
	return a.Err == b.Err && a.At == b.At && a.Text == b.Text && slices.Equal(a.Names, b.Names) && a.Kind == b.Kind && a.N == b.N
}

func expect(t *testing.T, e *Editor, line string, want api.Reply) {
	t.Helper()
	if got := e.Do(line); !same(got, want) {
		t.Errorf("Do(%q) = %+v, want %+v", line, got, want)
	}
}

func expectNames(t *testing.T, e *Editor, line, names string) {
	t.Helper()
	expect(t, e, line, api.Reply{Names: strings.Fields(names)})
}

// everything is all that can be asked of an editor.
func everything(e *Editor) string {
	order := e.Do("order").Names
	all := e.Do("list").Text + strings.Join(order, " ")
	for _, name := range order {
		v := e.Do("value " + name)
		all += "\n" + name + " " + e.Do("rule "+name).Text + " " + strconv.Itoa(v.Kind) + " " + strconv.FormatInt(v.N, 10)
	}
	return all
}

// expectRefused asks for an error, and that nothing else is told and nothing is changed.
func expectRefused(t *testing.T, e *Editor, line string, errno api.Errno, at int) {
	t.Helper()
	before := everything(e)
	expect(t, e, line, api.Reply{Err: errno, At: at})
	if now := everything(e); now != before {
		t.Errorf("Do(%q) changes\n%s\nto\n%s", line, before, now)
	}
}

func TestP4New(t *testing.T) {
	for _, undo := range []int{-1, 7, -7, 100, math.MaxInt, math.MinInt} {
		if e, errno := New(undo); e != nil || errno != api.ErrRange {
			t.Errorf("New(%d) = %v, %d, want ErrRange", undo, e, errno)
		}
	}
	for undo := range api.MaxUndo + 1 {
		e, errno := New(undo)
		if e == nil || errno != api.OK {
			t.Fatalf("New(%d) = %v, %d", undo, e, errno)
		}
		expect(t, e, "list", api.Reply{})
		expect(t, e, "order", api.Reply{})
		expectRefused(t, e, "value a", api.ErrName, 0)
	}
}

func TestExamplesOfTheDocument(t *testing.T) {
	e := keeping(t, 1)
	expectNames(t, e, "set a = b + 1", "a")
	expect(t, e, "value a", api.Reply{Kind: api.Error, N: api.Name})
	expectNames(t, e, "set b = 2", "b a")
	expect(t, e, "value a", api.Reply{Kind: api.Int, N: 3})
	expectCircle(t, e, "set b = a", "a b")
	expectCircle(t, e, "set c = c", "c")
	expectNames(t, e, "rename b x", "x a")
	expect(t, e, "rule a", api.Reply{Text: "x + 1"})
	expectNames(t, e, "delete x", "a")
	expect(t, e, "undo", api.Reply{})
	expect(t, e, "list", api.Reply{Text: "a = x + 1\nx = 2\n"})
	f := editor(t, "set a = n", "set m = a")
	expectCircle(t, f, "rename m n", "a n")
}

func TestP5WrongLines(t *testing.T) {
	e := editor(t, "set a = 1", "set b = a")
	for _, c := range []struct {
		line  string
		errno api.Errno
		at    int
	}{
		{"", api.ErrSyntax, 0}, {" ", api.ErrSyntax, 1}, {strings.Repeat(" ", 120), api.ErrSyntax, 120},
		{strings.Repeat(" ", 121), api.ErrLong, 0}, {"list" + strings.Repeat(" ", 117), api.ErrLong, 0}, {strings.Repeat("?", 121), api.ErrLong, 0},
		{"what", api.ErrSyntax, 0}, {"  what a", api.ErrSyntax, 2}, {"a = 1", api.ErrSyntax, 0}, {"sets a = 1", api.ErrSyntax, 0}, {"se t a = 1", api.ErrSyntax, 0},
		{"1", api.ErrSyntax, 0}, {"(", api.ErrSyntax, 0}, {"= a", api.ErrSyntax, 0}, {" if", api.ErrSyntax, 1}, {"not", api.ErrSyntax, 0}, {"true", api.ErrSyntax, 0}, {"- - - - - - - 1", api.ErrSyntax, 0},
		{"Set a = 1", api.ErrToken, 0}, {"seta = $", api.ErrToken, 7}, {"what ?", api.ErrToken, 5}, {"commits", api.ErrToken, 0}, {"list\n", api.ErrToken, 4}, {"list\t", api.ErrToken, 4},
		{"set", api.ErrSyntax, 3}, {"set ", api.ErrSyntax, 4}, {"set a", api.ErrSyntax, 5}, {"set a =", api.ErrSyntax, 7}, {"set a = ", api.ErrSyntax, 8},
		{"set 1 = 2", api.ErrSyntax, 4}, {"set = 2", api.ErrSyntax, 4}, {"set a 1", api.ErrSyntax, 6}, {"set a < 1", api.ErrSyntax, 6}, {"set a = = 1", api.ErrSyntax, 8}, {"set a b = 1", api.ErrSyntax, 6}, {"set a , b = 1", api.ErrSyntax, 6},
		{"set a = 1 2", api.ErrSyntax, 10}, {"set a = 1 +", api.ErrSyntax, 11}, {"set a = (1", api.ErrSyntax, 10}, {"set a = 1 = 2 = 3", api.ErrSyntax, 14}, {"set a = set b = 1 = 2", api.ErrSyntax, 12}, {"set a == 1", api.ErrSyntax, 7},
		{"set a = $", api.ErrToken, 8}, {"set abcdefg = 1", api.ErrToken, 4}, {"set a = 9223372036854775808", api.ErrToken, 8}, {"set a = abcdefg", api.ErrToken, 8},
		{"set a = ((((((-1", api.ErrDepth, 14}, {"set a = (((((((1)))))))", api.ErrDepth, 14}, {"set a = -------1", api.ErrDepth, 14}, {"set a = 1 2 -------1", api.ErrSyntax, 10}, {"set a = ------- 1 2", api.ErrDepth, 14}, {"set a = not not not not not not not a", api.ErrDepth, 32},
		{"set ((((((( = 1", api.ErrSyntax, 4}, {"set a ((((((( ", api.ErrSyntax, 6}, {"set a = 1 ?", api.ErrToken, 10}, {"set 1 = ?", api.ErrToken, 8},
		{"delete", api.ErrSyntax, 6}, {"delete ", api.ErrSyntax, 7}, {"delete a b", api.ErrSyntax, 9}, {"delete 1", api.ErrSyntax, 7}, {"delete (a)", api.ErrSyntax, 7}, {"delete a,", api.ErrSyntax, 8}, {"delete A", api.ErrToken, 7}, {"delete (((((((", api.ErrSyntax, 7}, {"delete a (((((((", api.ErrSyntax, 9},
		{"rename", api.ErrSyntax, 6}, {"rename a", api.ErrSyntax, 8}, {"rename a 1", api.ErrSyntax, 9}, {"rename 1 a", api.ErrSyntax, 7}, {"rename a c d", api.ErrSyntax, 11}, {"rename a, c", api.ErrSyntax, 8}, {"rename a = c", api.ErrSyntax, 9}, {"rename a abcdefg", api.ErrToken, 9},
		{"value", api.ErrSyntax, 5}, {"value 1", api.ErrSyntax, 6}, {"value a b", api.ErrSyntax, 8}, {"value a + b", api.ErrSyntax, 8}, {"value not", api.ErrSyntax, 6},
		{"rule", api.ErrSyntax, 4}, {"rule 1", api.ErrSyntax, 5}, {"rule a b", api.ErrSyntax, 7}, {"rule (a)", api.ErrSyntax, 5},
		{"list a", api.ErrSyntax, 5}, {"list 1", api.ErrSyntax, 5}, {"list list", api.ErrSyntax, 5}, {"order 1", api.ErrSyntax, 6}, {"order a", api.ErrSyntax, 6}, {"order order", api.ErrSyntax, 6},
		{"begin a", api.ErrSyntax, 6}, {"commit 1", api.ErrSyntax, 7}, {"cancel -", api.ErrSyntax, 7}, {"undo 2", api.ErrSyntax, 5}, {"redo redo", api.ErrSyntax, 5},
		{"delete c", api.ErrName, 0}, {"rename c d", api.ErrName, 0}, {"value c", api.ErrName, 0}, {"rule c", api.ErrName, 0}, {"  value   c  ", api.ErrName, 0},
		{"rename a b", api.ErrTwice, 0}, {"rename b a", api.ErrTwice, 0}, {"rename a a", api.ErrTwice, 0},
	} {
		expectRefused(t, e, c.line, c.errno, c.at)
	}
	for _, word := range []string{"if", "and", "or", "not", "true", "false"} {
		expectRefused(t, e, word+" a", api.ErrSyntax, 0)
		expectRefused(t, e, "set "+word+" = 1", api.ErrSyntax, 4)
		expectRefused(t, e, "delete "+word, api.ErrSyntax, 7)
		expectRefused(t, e, "rename a "+word, api.ErrSyntax, 9)
		expectRefused(t, e, "rename "+word+" a", api.ErrSyntax, 7)
		expectRefused(t, e, "value "+word, api.ErrSyntax, 6)
		expectRefused(t, e, "rule "+word, api.ErrSyntax, 5)
	}
}

func TestP5ErrorNamedFirst(t *testing.T) {
	long := "aa" + strings.Repeat(" + aa", 19) // 97 bytes
	e := editor(t, "set aa = 1", "set bb = cc", "set cc = "+long, "set dd = eeeee")
	for _, c := range []struct {
		line  string
		errno api.Errno
		at    int
	}{
		{"what " + strings.Repeat("?", 116), api.ErrLong, 0},
		{"what (((((((?", api.ErrToken, 12},
		{"delete zz zz", api.ErrSyntax, 10},
		{"rename zz bb 1", api.ErrSyntax, 13},
		{"set zz = zz + " + long, api.ErrLimit, 0},
		{"set aa = bb +" + long, api.ErrLimit, 0},
		{"set aa = bb+" + strings.Repeat("a+", 48) + "-------1", api.ErrDepth, 114},
		{"set aa = bb+" + strings.Repeat("a+", 48) + "1 1", api.ErrSyntax, 110},
		{"rename zz aa", api.ErrName, 0}, {"rename zz zz", api.ErrName, 0},
		{"rename aa bb", api.ErrTwice, 0}, {"rename aa aa", api.ErrTwice, 0},
	} {
		expectRefused(t, e, c.line, c.errno, c.at)
	}
	expect(t, e, "rename aa z", api.Reply{Names: []string{"z", "cc", "bb"}})
	expect(t, e, "rename z aa", api.Reply{Names: []string{"aa", "cc", "bb"}})

	// A name that is too long for one rule, and makes a circle of two others.
	f := editor(t, "set q = nnn", "set m = q", "set r = m"+strings.Repeat(" + m", 24))
	expectRefused(t, f, "rename m nnn", api.ErrLimit, 0)
	g := editor(t, "set q = n", "set m = q", "set n2 = m"+strings.Repeat(" + m", 24))
	expectRefused(t, g, "rename m n2", api.ErrTwice, 0)

	h := editor(t, "set q = more")
	for i := range api.MaxFields - 1 {
		h.Do("set n" + strconv.Itoa(i) + " = q")
	}
	expectRefused(t, h, "set more = q", api.ErrLimit, 0)
	expectRefused(t, h, "set more = more", api.ErrLimit, 0)
	expectRefused(t, h, "set more = ", api.ErrSyntax, 11)
	expectCircle(t, h, "set q = q", "q")
}

func TestP5MaxFields(t *testing.T) {
	e := editor(t)
	for i := range api.MaxFields {
		name := "n" + strconv.Itoa(i)
		expectNames(t, e, "set "+name+" = 1", name)
	}
	expectRefused(t, e, "set more = 1", api.ErrLimit, 0)
	expectRefused(t, e, "set more = n1 + "+strings.Repeat("n1 + ", 16)+"1", api.ErrLimit, 0)
	expectNames(t, e, "set n3 = n4", "n3")
	expectNames(t, e, "rename n3 more", "more")
	expectRefused(t, e, "set n3 = 1", api.ErrLimit, 0)
	expectNames(t, e, "delete more", "")
	expectNames(t, e, "set n3 = 1", "n3")
	expectRefused(t, e, "set more = 1", api.ErrLimit, 0)
}

func TestP5MaxRule(t *testing.T) {
	e := editor(t)
	rest := strings.Repeat(" + a", 24) // 96 bytes
	tight := strings.ReplaceAll(rest, " ", "")
	expectNames(t, e, "set q = bbbb"+rest, "q")
	expect(t, e, "rule q", api.Reply{Text: "bbbb" + rest})
	expectRefused(t, e, "set q = bbbbb"+rest, api.ErrLimit, 0)
	expectRefused(t, e, "set q = bbbbb"+tight, api.ErrLimit, 0)
	expectRefused(t, e, "set new = bbbbb"+tight, api.ErrLimit, 0)
	expectNames(t, e, "set q = 00001"+rest, "q")
	expectNames(t, e, "set q = cccc"+tight, "q")
	expect(t, e, "rule q", api.Reply{Text: "cccc" + rest})
}

func TestP5RenameAndMaxRule(t *testing.T) {
	e := editor(t, "set a = 1", "set q = bb"+strings.Repeat(" + a", 24), "set z = 2")
	expectRefused(t, e, "rename a aa", api.ErrLimit, 0)
	expectNames(t, e, "rename a c", "c q")
	expectNames(t, e, "rename z zzzzzz", "zzzzzz")
	expect(t, e, "rule q", api.Reply{Text: "bb" + strings.Repeat(" + c", 24)})
	expectNames(t, e, "set bb = 1", "bb q")
	expectNames(t, e, "rename bb bbbb", "bbbb q")
	if n := len(e.Do("rule q").Text); n != api.MaxRule {
		t.Fatalf("the rule has %d bytes", n)
	}
	expectRefused(t, e, "rename bbbb bbbbb", api.ErrLimit, 0)
	expectNames(t, e, "rename bbbb b", "b q")
	expect(t, e, "list", api.Reply{Text: "b = 1\nc = 1\nq = b" + strings.Repeat(" + c", 24) + "\nzzzzzz = 2\n"})
}
