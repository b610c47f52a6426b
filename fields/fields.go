// Package fields: an editor of named rules: see DOC.md.
package fields

import (
	"fields/api"
	"fields/history"
	"fields/lines"
	"fields/rules"
	"fields/sheet"
	"fields/token"
)

// Editor is some rules, and the edits that can be taken back or done again.
type Editor struct {
	sheet   sheet.Sheet
	history history.History
}

// Plain tells a rule in its plain form (P3).
func Plain(rule string) (string, api.Errno, int) {
	tokens, errno, at := token.Scan(rule)
	if errno != api.OK {
		return "", errno, at
	}
	read, errno, at := rules.Read(tokens)
	if errno != api.OK {
		return "", errno, at
	}
	return read.Plain(), api.OK, 0
}

// New makes an editor that takes back so many edits (P4).
func New(undo int) (*Editor, api.Errno) {
	if undo < 0 || undo > api.MaxUndo {
		return nil, api.ErrRange
	}
	return &Editor{history: history.History{Most: undo}}, api.OK
}

// Do does what a line says (P5 to P9).
func (e *Editor) Do(line string) api.Reply {
	read, errno, at := lines.Read(line)
	reply := api.Reply{Err: errno, At: at}
	if errno == api.OK {
		reply = e.follow(read)
	}
	if reply.Err != api.OK && read.Verb.Edits() {
		e.history.Cancel() // P7; where no group is open, this does nothing
	}
	return reply
}

func (e *Editor) follow(line lines.Line) api.Reply {
	switch line.Verb {
	case lines.Set, lines.Delete, lines.Rename:
		return e.edit(line)
	case lines.Begin:
		return api.Reply{Err: e.history.Begin()}
	case lines.Commit:
		return api.Reply{Err: e.history.Commit()}
	case lines.Cancel:
		return api.Reply{Err: e.history.Cancel()}
	case lines.Undo:
		return api.Reply{Err: e.history.Undo()}
	case lines.Redo:
		return api.Reply{Err: e.history.Redo()}
	}
	return e.tell(line)
}

func (e *Editor) edit(line lines.Line) api.Reply {
	names, back, errno := e.change(line)
	if errno == api.OK {
		e.history.Add(back)
	}
	return api.Reply{Err: errno, Names: names}
}

func (e *Editor) change(line lines.Line) ([]string, history.Back, api.Errno) {
	switch line.Verb {
	case lines.Set:
		return e.sheet.Set(line.Names[0], line.Rule)
	case lines.Delete:
		return e.sheet.Delete(line.Names[0])
	}
	return e.sheet.Rename(line.Names[0], line.Names[1])
}

func (e *Editor) tell(line lines.Line) (reply api.Reply) {
	switch line.Verb {
	case lines.Value:
		var value rules.Value
		value, reply.Err = e.sheet.Value(line.Names[0])
		reply.Kind, reply.N = value.Kind, value.N
	case lines.Rule:
		reply.Text, reply.Err = e.sheet.Rule(line.Names[0])
	case lines.List:
		reply.Text = e.sheet.List()
	case lines.Order:
		reply.Names = e.sheet.Order()
	}
	return reply
}
