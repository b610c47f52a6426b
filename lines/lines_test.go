package lines

import (
	"slices"
	"testing"

	"fields/api"
)

func TestRead(t *testing.T) {
	for _, c := range []struct {
		text  string
		verb  Verb
		names []string
		rule  string
	}{
		{"set a=1+b", Set, []string{"a"}, "1 + b"},
		{" set set = set = set ", Set, []string{"set"}, "set = set"},
		{"delete a", Delete, []string{"a"}, ""},
		{"rename a b", Rename, []string{"a", "b"}, ""},
		{"begin", Begin, nil, ""}, {"commit", Commit, nil, ""}, {"cancel", Cancel, nil, ""},
		{"undo", Undo, nil, ""}, {"redo ", Redo, nil, ""},
		{"value value", Value, []string{"value"}, ""},
		{"rule a", Rule, []string{"a"}, ""},
		{" list", List, nil, ""}, {"order", Order, nil, ""},
	} {
		line, errno, at := Read(c.text)
		if line.Verb != c.verb || !slices.Equal(line.Names, c.names) || line.Rule.Plain() != c.rule || errno != api.OK || at != 0 {
			t.Errorf("Read(%q) = %v, %d, %d", c.text, line, errno, at)
		}
	}
}

func TestReadWrong(t *testing.T) {
	for _, c := range []struct {
		text  string
		errno api.Errno
		at    int
	}{
		{"", api.ErrSyntax, 0}, {"?", api.ErrToken, 0}, {"a", api.ErrSyntax, 0}, {" if", api.ErrSyntax, 1},
		{"set a", api.ErrSyntax, 5}, {"set a = ", api.ErrSyntax, 8}, {"set a = -------1", api.ErrDepth, 14},
		{"rename a", api.ErrSyntax, 8}, {"rename a b c", api.ErrSyntax, 11}, {"list 1", api.ErrSyntax, 5},
	} {
		line, errno, at := Read(c.text)
		if line.Verb != 0 || line.Names != nil || line.Rule.Plain() != "" || errno != c.errno || at != c.at {
			t.Errorf("Read(%q) = %v, %d, %d, want %d, %d", c.text, line, errno, at, c.errno, c.at)
		}
	}
}
