package lines

import (
	"slices"
	"strings"
	"testing"

	"fields/api"
)

func TestRead(t *testing.T) {
	for _, c := range []struct {
		text  string
		verb  Verb
		names []string
		rule  string
	}{
		{"set a=1+b", Set, []string{"a"}, "1 + b"},
		{" set set = set = set ", Set, []string{"set"}, "set = set"},
		{"delete a", Delete, []string{"a"}, ""},
		{"rename a b", Rename, []string{"a", "b"}, ""},
		{"begin", Begin, nil, ""}, {"commit", Commit, nil, ""}, {"cancel", Cancel, nil, ""},
		{"undo", Undo, nil, ""}, {"redo ", Redo, nil, ""},
		{"value value", Value, []string{"value"}, ""},
		{"rule a", Rule, []string{"a"}, ""},
		{" list", List, nil, ""}, {"order", Order, nil, ""},
	} {
		line, errno, at := Read(c.text)
		if line.Verb != c.verb || !slices.Equal(line.Names, c.names) || line.Rule.Plain() != c.rule || errno != api.OK || at != 0 {
			t.Errorf("Read(%q) = %v, %d, %d", c.text, line, errno, at)
		}
	}
}

func TestReadWrong(t *testing.T) {
	for _, c := range []struct {
		text  string
		verb  Verb
		errno api.Errno
		at    int
	}{
		{"", 0, api.ErrSyntax, 0}, {"a", 0, api.ErrSyntax, 0}, {" if", 0, api.ErrSyntax, 1}, {"1", 0, api.ErrSyntax, 0}, {"= set", 0, api.ErrSyntax, 0}, {"a set b = 1", 0, api.ErrSyntax, 0},
		{"?", 0, api.ErrToken, 0}, {"list ?", 0, api.ErrToken, 5}, {"set a = ?", 0, api.ErrToken, 8}, {"delete A", 0, api.ErrToken, 7}, {"rename a b;", 0, api.ErrToken, 10},
		{strings.Repeat(" ", 121), 0, api.ErrLong, 0}, {"set a = " + strings.Repeat(" ", 113), 0, api.ErrLong, 0}, {"delete" + strings.Repeat(" ", 115), 0, api.ErrLong, 0},
		{"set", Set, api.ErrSyntax, 3}, {"set 1", Set, api.ErrSyntax, 4}, {"set = 1", Set, api.ErrSyntax, 4}, {"set a", Set, api.ErrSyntax, 5}, {"set a b", Set, api.ErrSyntax, 6}, {"set a < 1", Set, api.ErrSyntax, 6},
		{"set a = ", Set, api.ErrSyntax, 8}, {"set a = 1 1", Set, api.ErrSyntax, 10}, {"set a = -------1", Set, api.ErrDepth, 14}, {"set a = 1" + strings.Repeat("+1", 25), Set, api.ErrLimit, 0},
		{"delete", Delete, api.ErrSyntax, 6}, {"delete 1", Delete, api.ErrSyntax, 7}, {"delete a b", Delete, api.ErrSyntax, 9}, {"delete a = 1", Delete, api.ErrSyntax, 9},
		{"rename ", Rename, api.ErrSyntax, 7}, {"rename 1 a", Rename, api.ErrSyntax, 7}, {"rename a", Rename, api.ErrSyntax, 8}, {"rename a = b", Rename, api.ErrSyntax, 9}, {"rename a b c", Rename, api.ErrSyntax, 11},
		{"value", Value, api.ErrSyntax, 5}, {"value (", Value, api.ErrSyntax, 6}, {"value a b", Value, api.ErrSyntax, 8},
		{"rule", Rule, api.ErrSyntax, 4}, {"rule not", Rule, api.ErrSyntax, 5}, {"rule a = 1", Rule, api.ErrSyntax, 7},
		{"begin a", Begin, api.ErrSyntax, 6}, {"commit 1", Commit, api.ErrSyntax, 7}, {"cancel =", Cancel, api.ErrSyntax, 7}, {"undo undo", Undo, api.ErrSyntax, 5}, {"redo (", Redo, api.ErrSyntax, 5},
		{"list 1", List, api.ErrSyntax, 5}, {"order a", Order, api.ErrSyntax, 6},
	} {
		line, errno, at := Read(c.text)
		if line.Verb != c.verb || line.Names != nil || line.Rule.Plain() != "" || errno != c.errno || at != c.at {
			t.Errorf("Read(%q) = %v, %d, %d, want %d, %d, %d", c.text, line, errno, at, c.verb, c.errno, c.at)
		}
	}
}

func TestEdits(t *testing.T) {
	for _, h := range heads {
		want := h.word == "set" || h.word == "delete" || h.word == "rename"
		if h.verb.Edits() != want {
			t.Errorf("%s is an edit: %v, want %v", h.word, !want, want)
		}
	}
	if Verb(0).Edits() {
		t.Error("a line without a verb is an edit")
	}
}
