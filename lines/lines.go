// Package lines reads lines: see DOC.md, 'Lines'.
package lines

import (
	"fields/api"
	"fields/rules"
	"fields/token"
)

// Verb is what a line asks for.
type Verb int

const (
	Set Verb = 1 + iota
	Delete
	Rename
	Begin
	Commit
	Cancel
	Undo
	Redo
	Value
	Rule
	List
	Order
)

// Edits tells whether a line asks for an edit.
func (v Verb) Edits() bool { return v == Set || v == Delete || v == Rename }

// Line is a line that was read. It has the NAMEs behind its first word, as many as its verb asks for; a
// rule only with Set.
type Line struct {
	Verb  Verb
	Names []string
	Rule  rules.Rule
}

// A head is the first word of a line, and what stands behind it: so many NAMEs; then `=` and a RULE, or the end.
type head struct {
	word  string
	verb  Verb
	names int
	rule  bool
}

var heads = [...]head{
	{"set", Set, 1, true},
	{"delete", Delete, 1, false},
	{"rename", Rename, 2, false},
	{"begin", Begin, 0, false},
	{"commit", Commit, 0, false},
	{"cancel", Cancel, 0, false},
	{"undo", Undo, 0, false},
	{"redo", Redo, 0, false},
	{"value", Value, 1, false},
	{"rule", Rule, 1, false},
	{"list", List, 0, false},
	{"order", Order, 0, false},
}

// Read reads a text as one LINE; or it tells ErrLong, ErrToken, ErrSyntax or ErrDepth and the place, or
// ErrLimit. With these, but for ErrLong and ErrToken, the verb of a first word that is known is told too,
// for an open group hangs on it.
func Read(text string) (Line, api.Errno, int) {
	tokens, errno, at := token.Scan(text)
	if errno != api.OK {
		return Line{}, errno, at
	}
	for _, h := range heads {
		if tokens[0].Text == h.word {
			return h.read(tokens[1:])
		}
	}
	return Line{}, api.ErrSyntax, tokens[0].At
}

func (h head) read(left []token.Token) (Line, api.Errno, int) {
	line := Line{Verb: h.verb}
	for range h.names {
		if left[0].Kind != token.Name {
			return Line{Verb: h.verb}, api.ErrSyntax, left[0].At
		}
		line.Names = append(line.Names, left[0].Text)
		left = left[1:]
	}
	if h.rule {
		return line.withRule(left)
	}
	if left[0].Kind != token.End {
		return Line{Verb: h.verb}, api.ErrSyntax, left[0].At
	}
	return line, api.OK, 0
}

func (l Line) withRule(left []token.Token) (Line, api.Errno, int) {
	if left[0].Kind != token.Equal {
		return Line{Verb: l.Verb}, api.ErrSyntax, left[0].At
	}
	rule, errno, at := rules.Read(left[1:])
	if errno != api.OK {
		return Line{Verb: l.Verb}, errno, at
	}
	l.Rule = rule
	return l, api.OK, 0
}
