package rules

import (
	"slices"
	"strconv"
	"strings"

	"fields/token"
)

// A part is a piece of a rule that is worth something. Its kind is that of the token which says what
// is done with the parts in it; brackets are a part too, of the kind Open, so that they stay.
type part struct {
	kind  token.Kind
	name  string
	n     int64
	parts []part
}

// spellings: what stands ahead of the parts in a part, between each two of them, and behind them.
// NUMs and NAMEs have none.
var spellings = [token.Kinds]struct{ ahead, between, behind string }{
	token.If:        {"if(", ", ", ")"},
	token.Open:      {"(", "", ")"},
	token.True:      {ahead: "true"},
	token.False:     {ahead: "false"},
	token.Not:       {ahead: "not "},
	token.Negate:    {ahead: "-"},
	token.And:       {between: " and "},
	token.Or:        {between: " or "},
	token.Plus:      {between: " + "},
	token.Minus:     {between: " - "},
	token.Times:     {between: " * "},
	token.Divide:    {between: " / "},
	token.Remainder: {between: " % "},
	token.Equal:     {between: " = "},
	token.Less:      {between: " < "},
}

func (p part) plain() string {
	var text strings.Builder
	p.write(&text)
	return text.String()
}

func (p part) write(text *strings.Builder) {
	spelling := spellings[p.kind]
	text.WriteString(spelling.ahead)
	text.WriteString(p.name)
	if p.kind == token.Num {
		text.WriteString(strconv.FormatInt(p.n, 10))
	}
	for i, inner := range p.parts {
		if i > 0 {
			text.WriteString(spelling.between)
		}
		inner.write(text)
	}
	text.WriteString(spelling.behind)
}

func (p part) mentions(name string) bool {
	return p.kind == token.Name && p.name == name ||
		slices.ContainsFunc(p.parts, func(inner part) bool { return inner.mentions(name) })
}

// renamed copies all the parts, so that the old rule can be had again.
func (p part) renamed(name, to string) part {
	if p.kind == token.Name && p.name == name {
		p.name = to
	}
	p.parts = slices.Clone(p.parts)
	for i, inner := range p.parts {
		p.parts[i] = inner.renamed(name, to)
	}
	return p
}
