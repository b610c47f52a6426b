package rules

import (
	"slices"
	"strings"
	"testing"

	"fields/api"
	"fields/token"
)

func scan(t *testing.T, text string) []token.Token {
	t.Helper()
	tokens, e, at := token.Scan(text)
	if e != api.OK {
		t.Fatalf("Scan(%q): %d, %d", text, e, at)
	}
	return tokens
}

func TestReadFromTheMiddleOfALine(t *testing.T) {
	tokens := scan(t, "x = 1-(-a)")
	rule, e, at := Read(tokens[2:])
	if plain := rule.Plain(); plain != "1 - (-a)" || e != api.OK || at != 0 {
		t.Errorf("%q, %d, %d", plain, e, at)
	}
	tokens = scan(t, "x = 1-(-a")
	if _, e, at := Read(tokens[2:]); e != api.ErrSyntax || at != 9 {
		t.Errorf("%d, %d, want ErrSyntax, 9", e, at)
	}
}

func TestReadLeavesTheTokensAsTheyWere(t *testing.T) {
	tokens := scan(t, "--1 - -2")
	before := slices.Clone(tokens)
	Read(tokens)
	if !slices.Equal(tokens, before) {
		t.Errorf("%v, were %v", tokens, before)
	}
}

func TestAWrongRuleIsNone(t *testing.T) {
	for _, text := range []string{"", "1 + ", "1 2", "-------1", "(1,2)"} {
		if rule, e, _ := Read(scan(t, text)); e == api.OK || rule.Plain() != "" {
			t.Errorf("Read(%q) = %q, %d", text, rule.Plain(), e)
		}
	}
}

func read(t *testing.T, text string) Rule {
	t.Helper()
	rule, e, at := Read(scan(t, text))
	if e != api.OK {
		t.Fatalf("Read(%q): %d, %d", text, e, at)
	}
	return rule
}

func TestMentions(t *testing.T) {
	rule := read(t, "if(a, -b, not (c = d)) and abc or ifs < 1")
	for _, name := range []string{"a", "b", "c", "d", "abc", "ifs"} {
		if !rule.Mentions(name) {
			t.Errorf("%s is mentioned", name)
		}
	}
	for _, name := range []string{"", "if", "ab", "bc", "not", "and", "or", "1", "true"} {
		if rule.Mentions(name) {
			t.Errorf("%s is not mentioned", name)
		}
	}
}

func TestRenamedLeavesTheOldRule(t *testing.T) {
	rule := read(t, "if(a, -a, not (ab = a))")
	renamed, e := rule.Renamed("a", "xyz")
	if e != api.OK || renamed.Plain() != "if(xyz, -xyz, not (ab = xyz))" {
		t.Errorf("%q, %d", renamed.Plain(), e)
	}
	if rule.Plain() != "if(a, -a, not (ab = a))" {
		t.Errorf("the old rule is %q", rule.Plain())
	}
}

func TestRenamedTooLong(t *testing.T) {
	rule := read(t, "bbbb"+strings.Repeat(" + a", 24))
	if renamed, e := rule.Renamed("a", "c"); e != api.OK || len(renamed.Plain()) != api.MaxRule {
		t.Errorf("%q, %d", renamed.Plain(), e)
	}
	for _, name := range []string{"a", "bbbb"} {
		if renamed, e := rule.Renamed(name, name+"x"); e != api.ErrLimit || renamed.Plain() != "" {
			t.Errorf("%q, %d", renamed.Plain(), e)
		}
	}
}

// Which names are asked for shows what is looked at.
func TestWorthLooksAtNoMoreThanItMust(t *testing.T) {
	worths := map[string]Value{"y": truth(true), "n": truth(false), "i": number(1), "e": failure(api.Div)}
	for _, c := range []struct{ rule, asked string }{
		{"i + i", "ii"}, {"e + i", "e"}, {"y + i", "yi"}, {"i + y + i", "iy"}, {"i + e + i", "ie"}, {"e = i", "e"}, {"y < i", "yi"},
		{"n and i", "n"}, {"y and n", "yn"}, {"i and y", "i"}, {"e and y", "e"}, {"n and y and y", "n"}, {"y and n and y", "yn"},
		{"y or i", "y"}, {"n or y", "ny"}, {"i or y", "i"}, {"e or y", "e"}, {"y or i or i", "y"}, {"n and i or y", "ny"},
		{"if(y, i, e)", "yi"}, {"if(n, i, e)", "ne"}, {"if(i, y, n)", "i"}, {"if(e, y, n)", "e"}, {"not y", "y"}, {"-e", "e"},
	} {
		asked := ""
		read(t, c.rule).Worth(func(name string) Value {
			asked += name
			return worths[name]
		})
		if asked != c.asked {
			t.Errorf("%s: %s are looked at, want %s", c.rule, asked, c.asked)
		}
	}
}
