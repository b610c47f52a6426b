// Package fields: an editor of named rules: see DOC.md.
package fields

import (
	"fields/api"
	"fields/rules"
	"fields/token"
)

// Editor is some rules, and the edits that can be taken back.
type Editor struct{}

// Plain tells a rule in its plain form (P3).
func Plain(rule string) (string, api.Errno, int) {
	tokens, errno, at := token.Scan(rule)
	if errno != api.OK {
		return "", errno, at
	}
	read, errno, at := rules.Read(tokens)
	if errno != api.OK {
		return "", errno, at
	}
	return read.Plain(), api.OK, 0
}

// New makes an editor that takes back so many edits (P4).
func New(undo int) (*Editor, api.Errno) { return nil, api.OK }

// Do does what a line says (P5 to P9).
func (e *Editor) Do(line string) api.Reply { return api.Reply{} }
