// Package token cuts texts into tokens: see DOC.md, 'Rules'.
package token

import (
	"strconv"
	"strings"

	"fields/api"
)

// Kind tells tokens of one meaning from all others.
type Kind int

const (
	End Kind = iota // stands behind the last token
	Num
	Name
	If
	And
	Or
	Not
	True
	False
	Open
	Close
	Comma
	Plus
	Minus  // between two PRODUCTs, or not known yet
	Negate // a minus ahead of an ATOM: a reader of rules finds out, Scan can't
	Times
	Divide
	Remainder
	Equal
	Less
	Kinds // how many kinds there are
)

// Token is a token and its place. Text is told of NAMEs only, N of NUMs only.
type Token struct {
	Kind Kind
	At   int
	Text string
	N    int64
}

const maxDigits = 19

var meanings = [...]struct {
	text string
	kind Kind
}{
	{"if", If}, {"and", And}, {"or", Or}, {"not", Not}, {"true", True}, {"false", False},
	{"(", Open}, {")", Close}, {",", Comma},
	{"+", Plus}, {"-", Minus}, {"*", Times}, {"/", Divide}, {"%", Remainder},
	{"=", Equal}, {"<", Less},
}

// Scan tells the tokens of a text, and behind them one of the kind End, at the text's length;
// or ErrLong, or ErrToken and its place.
func Scan(text string) ([]Token, api.Errno, int) {
	if len(text) > api.MaxLine {
		return nil, api.ErrLong, 0
	}
	var tokens []Token
	for at := 0; at < len(text); {
		if text[at] == ' ' {
			at++
			continue
		}
		row := firstRow(text[at:])
		token, ok := fromRow(row)
		if !ok {
			return nil, api.ErrToken, at
		}
		token.At = at
		tokens = append(tokens, token)
		at += len(row)
	}
	return append(tokens, Token{Kind: End, At: len(text)}), api.OK, 0
}

// firstRow does not stop at the bounds of a token, so that what is too long is not cut into two.
func firstRow(text string) string {
	belongs := isDigit
	if isLetter(text[0]) {
		belongs = isLetterOrDigit
	}
	if !belongs(text[0]) {
		return text[:1]
	}
	n := 1
	for n < len(text) && belongs(text[n]) {
		n++
	}
	return text[:n]
}

func fromRow(row string) (Token, bool) {
	switch {
	case isDigit(row[0]):
		return number(row)
	case isLetter(row[0]):
		return word(row)
	}
	kind, ok := meaning(row)
	return Token{Kind: kind}, ok
}

func number(row string) (Token, bool) {
	n, err := strconv.ParseInt(row, 10, 64)
	if err != nil || len(row) > maxDigits {
		return Token{}, false
	}
	return Token{Kind: Num, N: n}, true
}

func word(row string) (Token, bool) {
	if len(row) > api.MaxName {
		return Token{}, false
	}
	if kind, ok := meaning(row); ok {
		return Token{Kind: kind}, true
	}
	// A copy, for a name may be kept, and the text it stands in may not.
	return Token{Kind: Name, Text: strings.Clone(row)}, true
}

func meaning(row string) (Kind, bool) {
	for _, m := range meanings {
		if m.text == row {
			return m.kind, true
		}
	}
	return End, false
}

func isDigit(b byte) bool         { return '0' <= b && b <= '9' }
func isLetter(b byte) bool        { return 'a' <= b && b <= 'z' }
func isLetterOrDigit(b byte) bool { return isLetter(b) || isDigit(b) }
