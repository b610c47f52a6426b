package rules

import (
	"fields/api"
	"fields/token"
)

// The levels of a rule, from the loosest: what is of one level is made of some of the next.
const (
	ruleLevel = 1 + iota
	partLevel
	testLevel
	sumLevel
	productLevel
	atomLevel
)

// between: the level whose pieces a kind stands between; 0, if it stands between none.
var between = [token.Kinds]int{
	token.Or:        ruleLevel,
	token.And:       partLevel,
	token.Equal:     testLevel,
	token.Less:      testLevel,
	token.Plus:      sumLevel,
	token.Minus:     sumLevel,
	token.Times:     productLevel,
	token.Divide:    productLevel,
	token.Remainder: productLevel,
}

// ahead: the level of what a kind stands ahead of, and makes one of the same level with it.
var ahead = [token.Kinds]int{
	token.Not:   testLevel,
	token.Minus: atomLevel,
}

// A reader stops at the first token that is wrong: that one is then the first that is left. It never
// takes a token ahead of knowing that a RULE may go on with it, so the place of an error is right.
type reader struct {
	left  []token.Token
	taken []token.Token
	depth int
	errno api.Errno
}

func (r *reader) whole() bool {
	return r.level(ruleLevel) && r.is(token.End)
}

func (r *reader) level(n int) bool {
	if ahead[r.kind()] == n {
		return r.behindSign(n)
	}
	if n == atomLevel {
		return r.atom()
	}
	if !r.level(n + 1) {
		return false
	}
	for between[r.kind()] == n {
		r.take()
		if !r.level(n + 1) {
			return false
		}
		if n == testLevel {
			break // a TEST has two SUMs at most
		}
	}
	return true
}

func (r *reader) behindSign(n int) bool {
	if !r.enter() {
		return false
	}
	sign := &r.taken[len(r.taken)-1]
	if sign.Kind == token.Minus {
		sign.Kind = token.Negate
	}
	if !r.level(n) {
		return false
	}
	r.depth--
	return true
}

func (r *reader) atom() bool {
	switch r.kind() {
	case token.Num, token.Name, token.True, token.False:
		r.take()
		return true
	case token.If:
		r.take()
		return r.brackets(3)
	}
	return r.brackets(1)
}

func (r *reader) brackets(rules int) bool {
	if !r.is(token.Open) || !r.enter() {
		return false
	}
	for i := range rules {
		if i > 0 && !r.pass(token.Comma) {
			return false
		}
		if !r.level(ruleLevel) {
			return false
		}
	}
	r.depth--
	return r.pass(token.Close)
}

// enter takes a token that something is in.
func (r *reader) enter() bool {
	if r.depth == api.MaxDepth {
		r.errno = api.ErrDepth
		return false
	}
	r.depth++
	r.take()
	return true
}

func (r *reader) pass(kind token.Kind) bool {
	if !r.is(kind) {
		return false
	}
	r.take()
	return true
}

func (r *reader) is(kind token.Kind) bool {
	if r.kind() != kind {
		r.errno = api.ErrSyntax
		return false
	}
	return true
}

func (r *reader) take() {
	r.taken = append(r.taken, r.left[0])
	r.left = r.left[1:]
}

func (r *reader) kind() token.Kind { return r.left[0].Kind }
