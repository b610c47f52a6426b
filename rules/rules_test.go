package rules

import (
	"slices"
	"testing"

	"fields/api"
	"fields/token"
)

func scan(t *testing.T, text string) []token.Token {
	t.Helper()
	tokens, e, at := token.Scan(text)
	if e != api.OK {
		t.Fatalf("Scan(%q): %d, %d", text, e, at)
	}
	return tokens
}

func TestReadFromTheMiddleOfALine(t *testing.T) {
	tokens := scan(t, "x = 1-(-a)")
	rule, e, at := Read(tokens[2:])
	if plain := rule.Plain(); plain != "1 - (-a)" || e != api.OK || at != 0 {
		t.Errorf("%q, %d, %d", plain, e, at)
	}
	tokens = scan(t, "x = 1-(-a")
	if _, e, at := Read(tokens[2:]); e != api.ErrSyntax || at != 9 {
		t.Errorf("%d, %d, want ErrSyntax, 9", e, at)
	}
}

func TestReadLeavesTheTokensAsTheyWere(t *testing.T) {
	tokens := scan(t, "--1 - -2")
	before := slices.Clone(tokens)
	Read(tokens)
	if !slices.Equal(tokens, before) {
		t.Errorf("%v, were %v", tokens, before)
	}
}

func TestAWrongRuleIsNone(t *testing.T) {
	for _, text := range []string{"", "1 + ", "1 2", "-------1", "(1,2)"} {
		if rule, e, _ := Read(scan(t, text)); e == api.OK || rule.Plain() != "" {
			t.Errorf("Read(%q) = %q, %d", text, rule.Plain(), e)
		}
	}
}
