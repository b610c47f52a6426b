package rules

import (
	"fields/api"
	"fields/token"
)

// Value is what a rule is worth: see api for the kinds, and for the errors that are values.
type Value struct {
	Kind int
	N    int64
}

// A worker works out parts, by what names are worth.
type worker struct {
	named func(name string) Value
}

func (w worker) worth(p part) Value {
	switch p.kind {
	case token.Num:
		return number(p.n)
	case token.True, token.False:
		return truth(p.kind == token.True)
	case token.Name:
		return w.named(p.name)
	case token.Open:
		return w.worth(p.parts[0])
	case token.Negate:
		return minus(w.only(api.Int, p.parts[0]))
	case token.Not:
		return opposite(w.only(api.Bool, p.parts[0]))
	case token.And:
		return w.unless(truth(false), p)
	case token.Or:
		return w.unless(truth(true), p)
	case token.If:
		return w.choice(p)
	}
	return w.ofTwo(p)
}

// only works out a part that must be of a kind: it is an Error, if it is not.
func (w worker) only(kind int, p part) Value {
	v := w.worth(p)
	if v.Kind != kind && v.Kind != api.Error {
		return failure(api.Type)
	}
	return v
}

// unless looks at the second part only if the first has not decided.
func (w worker) unless(decided Value, p part) Value {
	first := w.only(api.Bool, p.parts[0])
	if first == decided || first.Kind == api.Error {
		return first
	}
	return w.only(api.Bool, p.parts[1])
}

func (w worker) choice(p part) Value {
	switch first := w.only(api.Bool, p.parts[0]); first {
	case truth(true):
		return w.worth(p.parts[1])
	case truth(false):
		return w.worth(p.parts[2])
	default:
		return first
	}
}

func (w worker) ofTwo(p part) Value {
	first := w.worth(p.parts[0])
	if first.Kind == api.Error {
		return first
	}
	second := w.worth(p.parts[1])
	switch {
	case second.Kind == api.Error:
		return second
	case first.Kind == api.Int && second.Kind == api.Int:
		return ofInts(p.kind, first.N, second.N)
	case first.Kind == second.Kind && p.kind == token.Equal:
		return truth(first.N == second.N)
	}
	return failure(api.Type)
}

func ofInts(kind token.Kind, a, b int64) Value {
	switch kind {
	case token.Plus:
		return number(a + b)
	case token.Minus:
		return number(a - b)
	case token.Times:
		return number(a * b)
	case token.Equal:
		return truth(a == b)
	case token.Less:
		return truth(a < b)
	}
	if b == 0 {
		return failure(api.Div)
	}
	if kind == token.Divide {
		return number(a / b)
	}
	return number(a % b)
}

func minus(v Value) Value {
	if v.Kind == api.Error {
		return v
	}
	return number(-v.N)
}

func opposite(v Value) Value {
	if v.Kind == api.Error {
		return v
	}
	return truth(v.N == 0)
}

func number(n int64) Value    { return Value{api.Int, n} }
func failure(which int) Value { return Value{api.Error, int64(which)} }

func truth(is bool) Value {
	if is {
		return Value{api.Bool, 1}
	}
	return Value{api.Bool, 0}
}
