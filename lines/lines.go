// Package lines reads lines: see DOC.md, 'Lines'.
package lines

import (
	"fields/api"
	"fields/rules"
	"fields/token"
)

// Verb is what a line asks for.
type Verb int

const (
	Set Verb = 1 + iota
	Delete
	Rename
	Begin
	Commit
	Cancel
	Undo
	Redo
	Value
	Rule
	List
	Order
)

// Line is a line that was read without an error. It has the NAMEs behind its first word, as many as its
// verb asks for; a rule only with Set.
type Line struct {
	Verb  Verb
	Names []string
	Rule  rules.Rule
}

// A head is the first word of a line, and the kinds of the tokens behind it; behind these comes a RULE, or the end.
type head struct {
	word   string
	verb   Verb
	behind []token.Kind
	rule   bool
}

var heads = [...]head{
	{"set", Set, []token.Kind{token.Name, token.Equal}, true},
	{"delete", Delete, []token.Kind{token.Name}, false},
	{"rename", Rename, []token.Kind{token.Name, token.Name}, false},
	{"begin", Begin, nil, false},
	{"commit", Commit, nil, false},
	{"cancel", Cancel, nil, false},
	{"undo", Undo, nil, false},
	{"redo", Redo, nil, false},
	{"value", Value, []token.Kind{token.Name}, false},
	{"rule", Rule, []token.Kind{token.Name}, false},
	{"list", List, nil, false},
	{"order", Order, nil, false},
}

// Read reads a text as one LINE; or it tells ErrLong, ErrToken, ErrSyntax or ErrDepth and the place, or ErrLimit.
func Read(text string) (Line, api.Errno, int) {
	tokens, errno, at := token.Scan(text)
	if errno != api.OK {
		return Line{}, errno, at
	}
	for _, h := range heads {
		if tokens[0].Text == h.word {
			return h.read(tokens[1:])
		}
	}
	return Line{}, api.ErrSyntax, tokens[0].At
}

func (h head) read(left []token.Token) (Line, api.Errno, int) {
	line := Line{Verb: h.verb}
	for _, kind := range h.behind {
		if left[0].Kind != kind {
			return Line{}, api.ErrSyntax, left[0].At
		}
		if kind == token.Name {
			line.Names = append(line.Names, left[0].Text)
		}
		left = left[1:]
	}
	if h.rule {
		return line.withRule(left)
	}
	if left[0].Kind != token.End {
		return Line{}, api.ErrSyntax, left[0].At
	}
	return line, api.OK, 0
}

func (l Line) withRule(left []token.Token) (Line, api.Errno, int) {
	rule, errno, at := rules.Read(left)
	if errno != api.OK {
		return Line{}, errno, at
	}
	l.Rule = rule
	return l, api.OK, 0
}
