// Package rules reads rules, tells them in their plain form, and what they are worth: see DOC.md,
// 'Rules' and 'What rules are worth'.
package rules

import (
	"fields/api"
	"fields/token"
)

// Rule is a rule that was read without an error. It is never changed.
type Rule struct {
	whole part
}

// Read reads tokens, of which the last, and no other, is of the kind End, as one RULE; or it tells
// ErrSyntax or ErrDepth and the place, or ErrLimit.
func Read(tokens []token.Token) (Rule, api.Errno, int) {
	r := reader{left: tokens}
	whole, ok := r.whole()
	if !ok {
		return Rule{}, r.errno, r.left[0].At
	}
	rule, errno := bounded(whole)
	return rule, errno, 0
}

// Plain tells a rule in its plain form.
func (r Rule) Plain() string { return r.whole.plain() }

// Mentions tells whether a rule mentions a name.
func (r Rule) Mentions(name string) bool { return r.whole.mentions(name) }

// Renamed tells a rule with another name wherever it mentions one; or ErrLimit.
func (r Rule) Renamed(name, to string) (Rule, api.Errno) {
	return bounded(r.whole.renamed(name, to))
}

// Worth tells what a rule is worth, by what the names that it mentions are.
func (r Rule) Worth(named func(name string) Value) Value {
	return worker{named}.worth(r.whole)
}

func bounded(whole part) (Rule, api.Errno) {
	if len(whole.plain()) > api.MaxRule {
		return Rule{}, api.ErrLimit
	}
	return Rule{whole}, api.OK
}
