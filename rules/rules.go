// Package rules reads rules and tells them in their plain form: see DOC.md, 'Rules'.
package rules

import (
	"strings"

	"fields/api"
	"fields/token"
)

// Rule is a rule that was read without an error.
type Rule struct {
	tokens []token.Token
}

// spellings: with the blanks about them. NUMs and NAMEs have none: their own texts are told.
var spellings = [token.Kinds]string{
	token.If:        "if",
	token.And:       " and ",
	token.Or:        " or ",
	token.Not:       "not ",
	token.True:      "true",
	token.False:     "false",
	token.Open:      "(",
	token.Close:     ")",
	token.Comma:     ", ",
	token.Plus:      " + ",
	token.Minus:     " - ",
	token.Negate:    "-",
	token.Times:     " * ",
	token.Divide:    " / ",
	token.Remainder: " % ",
	token.Equal:     " = ",
	token.Less:      " < ",
}

// Read reads tokens, of which the last, and no other, is of the kind End, as one RULE; or it tells
// ErrSyntax or ErrDepth and the place, or ErrLimit.
func Read(tokens []token.Token) (Rule, api.Errno, int) {
	r := reader{left: tokens}
	if !r.whole() {
		return Rule{}, r.errno, r.left[0].At
	}
	read := Rule{r.taken}
	if len(read.Plain()) > api.MaxRule {
		return Rule{}, api.ErrLimit, 0
	}
	return read, api.OK, 0
}

// Plain tells a rule in its plain form.
func (r Rule) Plain() string {
	var plain strings.Builder
	for _, t := range r.tokens {
		plain.WriteString(spellings[t.Kind])
		plain.WriteString(t.Text)
	}
	return plain.String()
}
