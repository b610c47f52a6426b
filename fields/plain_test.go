package fields

import (
	"strings"
	"testing"

	"fields/api"
)

type wrong struct {
	rule string
	e    api.Errno
	at   int
}

func expectPlain(t *testing.T, rule, want string) {
	t.Helper()
	if s, e, at := Plain(rule); s != want || e != api.OK || at != 0 {
		t.Errorf("Plain(%q) = %q, %d, %d, want %q", rule, s, e, at, want)
	}
}

func expectWrong(t *testing.T, cases []wrong) {
	t.Helper()
	for _, c := range cases {
		if s, e, at := Plain(c.rule); s != "" || e != c.e || at != c.at {
			t.Errorf("Plain(%.60q) = %q, %d, %d, want %d, %d", c.rule, s, e, at, c.e, c.at)
		}
	}
}

func TestP3PlainForm(t *testing.T) {
	for _, c := range [][2]string{
		{"1+02*-a", "1 + 2 * -a"},
		{"not a<3 and if(b,c,d)or e", "not a < 3 and if(b, c, d) or e"},
		{"  1  ", "1"},
		{"a or b or c", "a or b or c"},
		{"(a)or(b)and(c)", "(a) or (b) and (c)"},
		{"a=b", "a = b"},
		{"a<b", "a < b"},
		{"(a=b)=(c<d)", "(a = b) = (c < d)"},
		{"a=b and c=d or e<f", "a = b and c = d or e < f"},
		{"1+2-3*4/5%6", "1 + 2 - 3 * 4 / 5 % 6"},
		{"1---1", "1 - --1"},
		{"1*-1", "1 * -1"},
		{"- - 1", "--1"},
		{"- ( 1 )", "-(1)"},
		{"-a-b", "-a - b"},
		{"(1)-(2)", "(1) - (2)"},
		{"-if(a,b,c)", "-if(a, b, c)"},
		{"not-1", "not -1"},
		{"not not(a)", "not not (a)"},
		{"a and not b or not c", "a and not b or not c"},
		{"(not a)=(not b)", "(not a) = (not b)"},
		{"if ( a , not b , - c )", "if(a, not b, -c)"},
		{"if(if(a,b,c),if(a,b,c),if(a,b,c))", "if(if(a, b, c), if(a, b, c), if(a, b, c))"},
		{"true=false", "true = false"},
		{"((a))", "((a))"},
	} {
		expectPlain(t, c[0], c[1])
		expectPlain(t, c[1], c[1])
	}
}

func TestP3Numbers(t *testing.T) {
	for _, c := range [][2]string{
		{"0", "0"}, {"00", "0"}, {"0000000000000000000", "0"}, {"010", "10"}, {"01+001", "1 + 1"},
		{"0000000000000000001", "1"}, {"1000000000000000000", "1000000000000000000"},
		{"9223372036854775807", "9223372036854775807"}, {"-9223372036854775807", "-9223372036854775807"},
	} {
		expectPlain(t, c[0], c[1])
	}
	expectWrong(t, []wrong{
		{"9223372036854775808", api.ErrToken, 0},
		{"-9223372036854775808", api.ErrToken, 1},
		{"9999999999999999999", api.ErrToken, 0},
		{"00000000000000000000", api.ErrToken, 0},
		{"09223372036854775807", api.ErrToken, 0},
		{"18446744073709551617", api.ErrToken, 0},
		{"1 + 99999999999999999999999999999999999999999", api.ErrToken, 4},
		{"1a", api.ErrSyntax, 1}, {"1 2", api.ErrSyntax, 2}, {"0x1", api.ErrSyntax, 1},
		{"1_0", api.ErrToken, 1}, {"1.5", api.ErrToken, 1},
	})
}

func TestP3Words(t *testing.T) {
	for _, name := range []string{
		"a", "z", "abcdef", "z9", "a12345", "set", "delete", "rename", "begin", "commit", "cancel", "undo",
		"redo", "value", "rule", "list", "order", "iff", "i", "ands", "or1", "nots", "true1", "falsey", "xif",
	} {
		expectPlain(t, name, name)
		expectPlain(t, "-"+name+"<(1)", "-"+name+" < (1)")
	}
	expectWrong(t, []wrong{
		{"if", api.ErrSyntax, 2}, {"and", api.ErrSyntax, 0}, {"or", api.ErrSyntax, 0}, {"not", api.ErrSyntax, 3},
		{"1+if+1", api.ErrSyntax, 4}, {"1+and+1", api.ErrSyntax, 2}, {"1+or+1", api.ErrSyntax, 2}, {"1+not+1", api.ErrSyntax, 2},
		{"a true", api.ErrSyntax, 2}, {"a false", api.ErrSyntax, 2}, {"true false", api.ErrSyntax, 5},
		{"abcdefg", api.ErrToken, 0}, {"a123456", api.ErrToken, 0}, {"falsely", api.ErrToken, 0},
		{"a + abcdefg", api.ErrToken, 4}, {"1abcdefg", api.ErrToken, 1},
		{"A", api.ErrToken, 0}, {"aB", api.ErrToken, 1}, {"a_b", api.ErrToken, 1},
	})
}

func TestP3Lengths(t *testing.T) {
	blanks := strings.Repeat(" ", api.MaxLine-1)
	expectPlain(t, blanks+"1", "1")
	expectPlain(t, "1"+blanks, "1")
	long := "abcdef" + strings.Repeat(" + ab", 18) // 96 bytes
	expectPlain(t, long+" + a", long+" + a")
	expectPlain(t, long+"+a", long+" + a")
	expectPlain(t, long+" + 0001", long+" + 1")
	expectPlain(t, "  "+long+" + a"+strings.Repeat(" ", 18), long+" + a")
	expectWrong(t, []wrong{
		{long + " + ab", api.ErrLimit, 0},
		{long + "+ab", api.ErrLimit, 0},
		{"abcdef" + strings.Repeat("+ab", 19), api.ErrLimit, 0},
		{strings.Repeat("a+", 59) + "a", api.ErrLimit, 0},
		{strings.Repeat("a+", 59) + "a)", api.ErrSyntax, 119},
		{strings.Repeat("a+", 60), api.ErrSyntax, 120},
		{strings.Repeat("a+", 59) + "a?", api.ErrToken, 119},
		{strings.Repeat("a+", 52) + "-------1", api.ErrDepth, 110},
		{strings.Repeat(" ", api.MaxLine), api.ErrSyntax, 120},
		{strings.Repeat(" ", api.MaxLine+1), api.ErrLong, 0},
		{"1" + blanks + " ", api.ErrLong, 0},
		{"?" + blanks + " ", api.ErrLong, 0},
		{strings.Repeat("(", api.MaxLine+1), api.ErrLong, 0},
		{strings.Repeat("x", 9000000), api.ErrLong, 0},
	})
}

func TestP3Tokens(t *testing.T) {
	expectWrong(t, []wrong{
		{"1\t+1", api.ErrToken, 1}, {"1\n", api.ErrToken, 1}, {"\x00", api.ErrToken, 0}, {"1 > 2", api.ErrToken, 2},
		{"\xff", api.ErrToken, 0}, {"a\u00e9", api.ErrToken, 1}, {"1\u00a0", api.ErrToken, 1}, {"a;b", api.ErrToken, 1},
		{") ) .", api.ErrToken, 4}, {"((((((((( A", api.ErrToken, 10}, {"1 2 3 ? !", api.ErrToken, 6},
	})
}

func TestP3Syntax(t *testing.T) {
	expectWrong(t, []wrong{
		{"", api.ErrSyntax, 0}, {" ", api.ErrSyntax, 1}, {"1+", api.ErrSyntax, 2}, {"1+  ", api.ErrSyntax, 4},
		{"+1", api.ErrSyntax, 0}, {"a b", api.ErrSyntax, 2}, {"1 * * 2", api.ErrSyntax, 4}, {"-", api.ErrSyntax, 1},
		{"1<2<3", api.ErrSyntax, 3}, {"1=2=3", api.ErrSyntax, 3}, {"1<2=3", api.ErrSyntax, 3}, {"not 1=2=3", api.ErrSyntax, 7},
		{"a<b and c<d<e", api.ErrSyntax, 11}, {"(a<b)<c<d", api.ErrSyntax, 7}, {"a<(b<c<d)", api.ErrSyntax, 6},
		{"not 1 = not 2", api.ErrSyntax, 8}, {"1 + not a", api.ErrSyntax, 4}, {"- not a", api.ErrSyntax, 2}, {"1 not 2", api.ErrSyntax, 2},
		{"a and", api.ErrSyntax, 5}, {"a or or b", api.ErrSyntax, 5}, {"a and or b", api.ErrSyntax, 6}, {"not and", api.ErrSyntax, 4},
		{"()", api.ErrSyntax, 1}, {"(1", api.ErrSyntax, 2}, {"1)", api.ErrSyntax, 1}, {"(1,2)", api.ErrSyntax, 2}, {"(1))", api.ErrSyntax, 3},
		{"1,2", api.ErrSyntax, 1}, {"a(1)", api.ErrSyntax, 1}, {"1(", api.ErrSyntax, 1}, {"(1)(2)", api.ErrSyntax, 3}, {"true(1)", api.ErrSyntax, 4},
		{"if 1", api.ErrSyntax, 3}, {"if if", api.ErrSyntax, 3}, {"if(", api.ErrSyntax, 3}, {"if()", api.ErrSyntax, 3}, {"if(1)", api.ErrSyntax, 4},
		{"if(1,2)", api.ErrSyntax, 6}, {"if(1,2,3", api.ErrSyntax, 8}, {"if(1,2,3,4)", api.ErrSyntax, 8}, {"if(1,(2,3),4)", api.ErrSyntax, 7},
		{"if(1,2,3)4", api.ErrSyntax, 9}, {"if(,1,2)", api.ErrSyntax, 3}, {"if(1,,2)", api.ErrSyntax, 5},
	})
}

func TestP3Depth(t *testing.T) {
	for _, c := range [][2]string{
		{"((((((1))))))", "((((((1))))))"},
		{"------1", "------1"},
		{"------1 - ------1*------1", "------1 - ------1 * ------1"},
		{"not not not not not not a", "not not not not not not a"},
		{"not not not not not not a=b and not not not not not not a", "not not not not not not a = b and not not not not not not a"},
		{"if(if(if(if(if(if(1,2,3),2,3),2,3),2,3),2,3),2,3)", "if(if(if(if(if(if(1, 2, 3), 2, 3), 2, 3), 2, 3), 2, 3), 2, 3)"},
		{"not not-(-(1))", "not not -(-(1))"},
		{"(((((-1-1-1)))))", "(((((-1 - 1 - 1)))))"},
		{"((((((1-1))))))-(((((-1)))))", "((((((1 - 1)))))) - (((((-1)))))"},
	} {
		expectPlain(t, c[0], c[1])
	}
	expectWrong(t, []wrong{
		{"(((((((", api.ErrDepth, 6}, {"((((((( ", api.ErrDepth, 6}, {"((((((-", api.ErrDepth, 6}, {"((((((not", api.ErrDepth, 6},
		{"-------1", api.ErrDepth, 6}, {"1--------1", api.ErrDepth, 8}, {"not not not not not not not a", api.ErrDepth, 24},
		{"not not not not not not a=-1", api.ErrDepth, 26}, {"not not not not not not a+(1)", api.ErrDepth, 26},
		{"-----((1))", api.ErrDepth, 6}, {"((((((1)-(-1)))))))", api.ErrDepth, 10}, {"((((((1+2--1", api.ErrDepth, 10},
		{"((((((if(", api.ErrDepth, 8}, {"-----if(-1,2,3)", api.ErrDepth, 8},
	})
}

func TestP3SyntaxOrDepthWhicheverComesFirst(t *testing.T) {
	expectWrong(t, []wrong{
		{"((((((( 1 2", api.ErrDepth, 6}, {"1 2 (((((((", api.ErrSyntax, 2}, {"((((((1))))))) -------1", api.ErrSyntax, 13},
		{"((((((1)))))) + -------1", api.ErrDepth, 22}, {"((((((if", api.ErrSyntax, 8}, {"((((((if -", api.ErrSyntax, 9},
		// Both at one token: ErrSyntax is named first.
		{"((((((1(", api.ErrSyntax, 7}, {"((((((1 not", api.ErrSyntax, 8}, {"((((((1+not", api.ErrSyntax, 8}, {"------not", api.ErrSyntax, 6},
	})
}
