package token

import (
	"slices"
	"strings"
	"testing"

	"fields/api"
)

func TestScanTellsTokensAndPlaces(t *testing.T) {
	for _, c := range []struct {
		text string
		want []Token
	}{
		{"", []Token{{End, 0, "", 0}}},
		{"   ", []Token{{End, 3, "", 0}}},
		{" a ", []Token{{Name, 1, "a", 0}, {End, 3, "", 0}}},
		{"1a", []Token{{Num, 0, "", 1}, {Name, 1, "a", 0}, {End, 2, "", 0}}},
		{"a1b2c3", []Token{{Name, 0, "a1b2c3", 0}, {End, 6, "", 0}}},
		{"007", []Token{{Num, 0, "", 7}, {End, 3, "", 0}}},
		{"if and or", []Token{{If, 0, "", 0}, {And, 3, "", 0}, {Or, 7, "", 0}, {End, 9, "", 0}}},
		{"not true false", []Token{{Not, 0, "", 0}, {True, 4, "", 0}, {False, 9, "", 0}, {End, 14, "", 0}}},
		{"iff or1", []Token{{Name, 0, "iff", 0}, {Name, 4, "or1", 0}, {End, 7, "", 0}}},
		{"(),+-", []Token{{Open, 0, "", 0}, {Close, 1, "", 0}, {Comma, 2, "", 0}, {Plus, 3, "", 0}, {Minus, 4, "", 0}, {End, 5, "", 0}}},
		{"*/%=<", []Token{{Times, 0, "", 0}, {Divide, 1, "", 0}, {Remainder, 2, "", 0}, {Equal, 3, "", 0}, {Less, 4, "", 0}, {End, 5, "", 0}}},
	} {
		if got, e, at := Scan(c.text); !slices.Equal(got, c.want) || e != api.OK || at != 0 {
			t.Errorf("Scan(%q) = %v, %d, %d, want %v", c.text, got, e, at, c.want)
		}
	}
}

func TestScanTellsWhereNoTokenBegins(t *testing.T) {
	for _, c := range []struct {
		text string
		e    api.Errno
		at   int
	}{
		{strings.Repeat(" ", api.MaxLine+1), api.ErrLong, 0},
		{strings.Repeat("?", api.MaxLine+1), api.ErrLong, 0},
		{"a abcdefg", api.ErrToken, 2},
		{"1abcdefg", api.ErrToken, 1},
		{"1 9223372036854775808", api.ErrToken, 2},
		{"00000000000000000001", api.ErrToken, 0},
		{"a\tb", api.ErrToken, 1},
		{"aB", api.ErrToken, 1},
	} {
		if got, e, at := Scan(c.text); got != nil || e != c.e || at != c.at {
			t.Errorf("Scan(%q) = %v, %d, %d, want %d, %d", c.text, got, e, at, c.e, c.at)
		}
	}
}

func TestEveryByteAlone(t *testing.T) {
	const signs = "(),+-*/%=<"
	for b := range 256 {
		text := string([]byte{byte(b)})
		begins := b == ' ' || '0' <= b && b <= '9' || 'a' <= b && b <= 'z' || strings.Contains(signs, text)
		if _, e, at := Scan(text); (e == api.OK) != begins || at != 0 {
			t.Errorf("Scan(%q): %d, %d", text, e, at)
		}
	}
}
