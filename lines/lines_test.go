package lines

import (
	"slices"
	"strings"
	"testing"

	"fields/api"
)

func TestRead(t *testing.T) {
	for _, c := range []struct {
		text  string
		verb  Verb
		names []string
		rule  string
	}{
		{"set a=1+b", Set, []string{"a"}, "1 + b"},
		{" set set = set = set ", Set, []string{"set"}, "set = set"},
		{"delete a", Delete, []string{"a"}, ""},
		{"rename a b", Rename, []string{"a", "b"}, ""},
		{"begin", Begin, nil, ""}, {"commit", Commit, nil, ""}, {"cancel", Cancel, nil, ""},
		{"undo", Undo, nil, ""}, {"redo ", Redo, nil, ""},
		{"value value", Value, []string{"value"}, ""},
		{"rule a", Rule, []string{"a"}, ""},
		{" list", List, nil, ""}, {"order", Order, nil, ""},
	} {
		line, errno, at := Read(c.text)
		if line.Verb != c.verb || !slices.Equal(line.Names, c.names) || line.Rule.Plain() != c.rule || errno != api.OK || at != 0 {
			t.Errorf("Read(%q) = %v, %d, %d", c.text, line, errno, at)
		}
	}
}

func TestReadWrong(t *testing.T) {
	for _, c := range []struct {
		text  string
		errno api.Errno
		at    int
	}{
		{"", api.ErrSyntax, 0}, {"?", api.ErrToken, 0}, {"a", api.ErrSyntax, 0}, {" if", api.ErrSyntax, 1}, {"1", api.ErrSyntax, 0}, {"= set", api.ErrSyntax, 0},
		{strings.Repeat(" ", 121), api.ErrLong, 0}, {"list ?", api.ErrToken, 5},
		{"set", api.ErrSyntax, 3}, {"set 1", api.ErrSyntax, 4}, {"set = 1", api.ErrSyntax, 4}, {"set a", api.ErrSyntax, 5}, {"set a b", api.ErrSyntax, 6}, {"set a < 1", api.ErrSyntax, 6},
		{"set a = ", api.ErrSyntax, 8}, {"set a = 1 1", api.ErrSyntax, 10}, {"set a = -------1", api.ErrDepth, 14}, {"set a = 1" + strings.Repeat("+1", 25), api.ErrLimit, 0},
		{"delete", api.ErrSyntax, 6}, {"delete 1", api.ErrSyntax, 7}, {"delete a b", api.ErrSyntax, 9}, {"delete a = 1", api.ErrSyntax, 9},
		{"rename ", api.ErrSyntax, 7}, {"rename 1 a", api.ErrSyntax, 7}, {"rename a", api.ErrSyntax, 8}, {"rename a = b", api.ErrSyntax, 9}, {"rename a b c", api.ErrSyntax, 11},
		{"value", api.ErrSyntax, 5}, {"value (", api.ErrSyntax, 6}, {"value a b", api.ErrSyntax, 8},
		{"rule", api.ErrSyntax, 4}, {"rule not", api.ErrSyntax, 5}, {"rule a = 1", api.ErrSyntax, 7},
		{"begin a", api.ErrSyntax, 6}, {"commit 1", api.ErrSyntax, 7}, {"cancel =", api.ErrSyntax, 7}, {"undo undo", api.ErrSyntax, 5}, {"redo (", api.ErrSyntax, 5},
		{"list 1", api.ErrSyntax, 5}, {"order a", api.ErrSyntax, 6},
	} {
		line, errno, at := Read(c.text)
		if line.Verb != 0 || line.Names != nil || line.Rule.Plain() != "" || errno != c.errno || at != c.at {
			t.Errorf("Read(%q) = %v, %d, %d, want %d, %d", c.text, line, errno, at, c.errno, c.at)
		}
	}
}
