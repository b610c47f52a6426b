package rules

import (
	"fields/api"
	"fields/token"
)

// The levels of a rule, from the loosest: what is of one level is made of some of the next.
const (
	ruleLevel = 1 + iota
	partLevel
	testLevel
	sumLevel
	productLevel
	atomLevel
)

// between: the level whose pieces a kind stands between; 0, if it stands between none.
var between = [token.Kinds]int{
	token.Or:        ruleLevel,
	token.And:       partLevel,
	token.Equal:     testLevel,
	token.Less:      testLevel,
	token.Plus:      sumLevel,
	token.Minus:     sumLevel,
	token.Times:     productLevel,
	token.Divide:    productLevel,
	token.Remainder: productLevel,
}

// ahead: the level of what a kind stands ahead of, and makes one of the same level with it.
var ahead = [token.Kinds]int{
	token.Not:   testLevel,
	token.Minus: atomLevel,
}

// A reader stops at the first token that is wrong: that one is then the first that is left. It never
// takes a token ahead of knowing that a RULE may go on with it, so the place of an error is right.
type reader struct {
	left  []token.Token
	depth int
	errno api.Errno
}

func (r *reader) whole() (part, bool) {
	whole, ok := r.level(ruleLevel)
	return whole, ok && r.is(token.End)
}

func (r *reader) level(n int) (part, bool) {
	if ahead[r.kind()] == n {
		return r.behindSign(n)
	}
	if n == atomLevel {
		return r.atom()
	}
	whole, ok := r.level(n + 1)
	for ok && between[r.kind()] == n {
		sign := r.take()
		var second part
		second, ok = r.level(n + 1)
		whole = part{kind: sign.Kind, parts: []part{whole, second}}
		if n == testLevel {
			break // a TEST has two SUMs at most
		}
	}
	return whole, ok
}

func (r *reader) behindSign(n int) (part, bool) {
	sign, ok := r.enter()
	if !ok {
		return part{}, false
	}
	if sign.Kind == token.Minus {
		sign.Kind = token.Negate
	}
	inner, ok := r.level(n)
	r.depth--
	return part{kind: sign.Kind, parts: []part{inner}}, ok
}

func (r *reader) atom() (part, bool) {
	switch r.kind() {
	case token.Num, token.Name, token.True, token.False:
		t := r.take()
		return part{kind: t.Kind, name: t.Text, n: t.N}, true
	case token.If:
		r.take()
		return r.brackets(token.If, 3)
	}
	return r.brackets(token.Open, 1)
}

func (r *reader) brackets(kind token.Kind, rules int) (part, bool) {
	if !r.is(token.Open) {
		return part{}, false
	}
	if _, ok := r.enter(); !ok {
		return part{}, false
	}
	whole := part{kind: kind}
	for i := range rules {
		if i > 0 && !r.pass(token.Comma) {
			return part{}, false
		}
		inner, ok := r.level(ruleLevel)
		if !ok {
			return part{}, false
		}
		whole.parts = append(whole.parts, inner)
	}
	r.depth--
	return whole, r.pass(token.Close)
}

// enter takes a token that something is in.
func (r *reader) enter() (token.Token, bool) {
	if r.depth == api.MaxDepth {
		r.errno = api.ErrDepth
		return token.Token{}, false
	}
	r.depth++
	return r.take(), true
}

func (r *reader) pass(kind token.Kind) bool {
	if !r.is(kind) {
		return false
	}
	r.take()
	return true
}

func (r *reader) is(kind token.Kind) bool {
	if r.kind() != kind {
		r.errno = api.ErrSyntax
		return false
	}
	return true
}

func (r *reader) take() token.Token {
	taken := r.left[0]
	r.left = r.left[1:]
	return taken
}

func (r *reader) kind() token.Kind { return r.left[0].Kind }
