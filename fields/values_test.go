package fields

import (
	"math"
	"strconv"
	"strings"
	"testing"

	"fields/api"
)

func expectValue(t *testing.T, e *Editor, name string, kind int, n int64) {
	t.Helper()
	expect(t, e, "value "+name, api.Reply{Kind: kind, N: n})
}

type worth struct {
	rule string
	kind int
	n    int64
}

func expectWorth(t *testing.T, cases []worth) {
	t.Helper()
	for _, c := range cases {
		e := editor(t, "set i = 7", "set o = 0", "set y = true", "set n = false", "set div = 1 / 0", "set type = not 1", "set z = "+c.rule)
		if got := e.Do("value z"); !same(got, api.Reply{Kind: c.kind, N: c.n}) {
			t.Errorf("%s: %+v, want %d, %d", c.rule, got, c.kind, c.n)
		}
	}
}

func TestP6Arithmetic(t *testing.T) {
	const least = "(-9223372036854775807 - 1)"
	expectWorth(t, []worth{
		{"0", api.Int, 0}, {"007", api.Int, 7}, {"9223372036854775807", api.Int, math.MaxInt64}, {"i", api.Int, 7}, {"((i))", api.Int, 7},
		{"-i", api.Int, -7}, {"--i", api.Int, 7}, {"---1", api.Int, -1}, {"-0", api.Int, 0},
		{"1 + 2", api.Int, 3}, {"1 - 2", api.Int, -1}, {"2 * 3", api.Int, 6}, {"1 - -2", api.Int, 3}, {"2 * -3", api.Int, -6},
		{"1 + 2 * 3", api.Int, 7}, {"2 * 3 + 1", api.Int, 7}, {"(1 + 2) * 3", api.Int, 9}, {"2 - 3 - 4", api.Int, -5}, {"2 - (3 - 4)", api.Int, 3}, {"2 - 3 + 4", api.Int, 3},
		{"100 / 10 / 5", api.Int, 2}, {"100 / (10 / 5)", api.Int, 50}, {"7 % 4 * 2", api.Int, 6}, {"2 * 7 % 4", api.Int, 2}, {"7 / 2 * 2", api.Int, 6}, {"17 % 10 % 4", api.Int, 3}, {"-2 * 3", api.Int, -6}, {"-(2 + 3)", api.Int, -5},
		{"7 / 2", api.Int, 3}, {"-7 / 2", api.Int, -3}, {"7 / -2", api.Int, -3}, {"-7 / -2", api.Int, 3}, {"0 / 5", api.Int, 0}, {"1 / 2", api.Int, 0}, {"-1 / 2", api.Int, 0},
		{"7 % 2", api.Int, 1}, {"-7 % 2", api.Int, -1}, {"7 % -2", api.Int, 1}, {"-7 % -2", api.Int, -1}, {"-6 % 3", api.Int, 0}, {"3 % 7", api.Int, 3},
		{"9223372036854775807 + 1", api.Int, math.MinInt64}, {least + " - 1", api.Int, math.MaxInt64}, {"9223372036854775807 * 2", api.Int, -2}, {"4611686018427387904 * 2", api.Int, math.MinInt64}, {"4294967296 * 4294967296", api.Int, 0},
		{"9223372036854775807 * 9223372036854775807", api.Int, 1}, {"-" + least, api.Int, math.MinInt64}, {"0 - " + least, api.Int, math.MinInt64}, {least + " * -1", api.Int, math.MinInt64}, {least + " / -1", api.Int, math.MinInt64}, {least + " % -1", api.Int, 0}, {least + " / 1", api.Int, math.MinInt64}, {least + " + " + least, api.Int, 0},
		{"1 / 0", api.Error, api.Div}, {"1 % 0", api.Error, api.Div}, {"0 / 0", api.Error, api.Div}, {"0 % 0", api.Error, api.Div}, {"1 / o", api.Error, api.Div}, {"1 / (1 - 1)", api.Error, api.Div}, {"1 / -0", api.Error, api.Div},
		{"y + 1", api.Error, api.Type}, {"1 + y", api.Error, api.Type}, {"y - n", api.Error, api.Type}, {"y * 1", api.Error, api.Type}, {"1 / y", api.Error, api.Type}, {"1 / n", api.Error, api.Type}, {"1 % n", api.Error, api.Type}, {"y / 0", api.Error, api.Type}, {"y % 0", api.Error, api.Type}, {"-y", api.Error, api.Type}, {"--n", api.Error, api.Type},
	})
}

func TestP6Comparing(t *testing.T) {
	expectWorth(t, []worth{
		{"1 = 1", api.Bool, 1}, {"1 = 2", api.Bool, 0}, {"1 < 2", api.Bool, 1}, {"2 < 1", api.Bool, 0}, {"1 < 1", api.Bool, 0}, {"-1 < 1", api.Bool, 1}, {"i = 7", api.Bool, 1}, {"i < 8", api.Bool, 1},
		{"-9223372036854775807 - 1 < 9223372036854775807", api.Bool, 1}, {"9223372036854775807 + 1 < 0", api.Bool, 1},
		{"y = y", api.Bool, 1}, {"n = n", api.Bool, 1}, {"y = n", api.Bool, 0}, {"n = y", api.Bool, 0}, {"true = (1 = 1)", api.Bool, 1}, {"(1 < 2) = (3 < 4)", api.Bool, 1},
		{"1 + 1 = 2", api.Bool, 1}, {"2 * 3 < 2 + 3", api.Bool, 0}, {"not 1 = 2", api.Bool, 1}, {"not 1 < 2", api.Bool, 0},
		{"y = 1", api.Error, api.Type}, {"1 = y", api.Error, api.Type}, {"0 = n", api.Error, api.Type}, {"y < n", api.Error, api.Type}, {"n < y", api.Error, api.Type}, {"1 < y", api.Error, api.Type}, {"n < 1", api.Error, api.Type},
	})
}

func TestP6AndOrNot(t *testing.T) {
	expectWorth(t, []worth{
		{"true", api.Bool, 1}, {"false", api.Bool, 0}, {"y", api.Bool, 1}, {"not y", api.Bool, 0}, {"not n", api.Bool, 1}, {"not not y", api.Bool, 1}, {"not (y and n)", api.Bool, 1},
		{"y and y", api.Bool, 1}, {"y and n", api.Bool, 0}, {"n and y", api.Bool, 0}, {"n and n", api.Bool, 0}, {"y and y and y", api.Bool, 1}, {"y and y and n", api.Bool, 0},
		{"y or y", api.Bool, 1}, {"y or n", api.Bool, 1}, {"n or y", api.Bool, 1}, {"n or n", api.Bool, 0}, {"n or n or y", api.Bool, 1}, {"n or n or n", api.Bool, 0},
		{"y or y and n", api.Bool, 1}, {"(y or y) and n", api.Bool, 0}, {"n and y or y", api.Bool, 1}, {"n and (y or y)", api.Bool, 0}, {"n and n or y and y", api.Bool, 1}, {"y or n and n", api.Bool, 1},
		{"not n and n", api.Bool, 0}, {"not n or y", api.Bool, 1}, {"not (n or y)", api.Bool, 0}, {"not 1 = 2 and y", api.Bool, 1}, {"1 < 2 and 2 < 3", api.Bool, 1},
		{"not 1", api.Error, api.Type}, {"not 0", api.Error, api.Type}, {"not i + 1", api.Error, api.Type}, {"1 and y", api.Error, api.Type}, {"y and 1", api.Error, api.Type}, {"1 or y", api.Error, api.Type}, {"n or 1", api.Error, api.Type}, {"0 and n", api.Error, api.Type}, {"0 or y", api.Error, api.Type},
		{"y and 1 and n", api.Error, api.Type}, {"n or 1 or y", api.Error, api.Type}, {"n or 0 and n", api.Error, api.Type},
	})
}

func TestP6If(t *testing.T) {
	expectWorth(t, []worth{
		{"if(true, 1, 2)", api.Int, 1}, {"if(false, 1, 2)", api.Int, 2}, {"if(y, n, 2)", api.Bool, 0}, {"if(1 < 2, 3, 4) + 1", api.Int, 4}, {"-if(n, 1, 2)", api.Int, -2},
		{"if(if(y, n, y), 1, if(n, 2, 3))", api.Int, 3}, {"if(y, 1 + 2, 3) * 2", api.Int, 6},
		{"if(1, 2, 3)", api.Error, api.Type}, {"if(0, 2, 3)", api.Error, api.Type}, {"if(div, 2, 3)", api.Error, api.Div}, {"if(nobody, 2, 3)", api.Error, api.Name},
		{"if(y, div, 3)", api.Error, api.Div}, {"if(n, 2, nobody)", api.Error, api.Name},
	})
}

func TestP6Errors(t *testing.T) {
	expectWorth(t, []worth{
		{"nobody", api.Error, api.Name}, {"div", api.Error, api.Div}, {"type", api.Error, api.Type}, {"(nobody)", api.Error, api.Name},
		{"-nobody", api.Error, api.Name}, {"-div", api.Error, api.Div}, {"not nobody", api.Error, api.Name}, {"not div", api.Error, api.Div},
		// The first from the left.
		{"div + nobody", api.Error, api.Div}, {"nobody + div", api.Error, api.Name}, {"div - type", api.Error, api.Div}, {"type * div", api.Error, api.Type}, {"div / nobody", api.Error, api.Div}, {"nobody % 0", api.Error, api.Name}, {"div = nobody", api.Error, api.Div}, {"nobody < div", api.Error, api.Name}, {"div = div", api.Error, api.Div},
		{"div and nobody", api.Error, api.Div}, {"nobody or div", api.Error, api.Name}, {"y and div", api.Error, api.Div}, {"n or nobody", api.Error, api.Name},
		// Both parts are worked out ahead of their kinds being held against what is asked.
		{"y + div", api.Error, api.Div}, {"1 < div", api.Error, api.Div}, {"y = nobody", api.Error, api.Name}, {"y / div", api.Error, api.Div}, {"n < nobody", api.Error, api.Name},
		// What stands on one level is taken from the left.
		{"1 + y + div", api.Error, api.Type}, {"1 / 0 + y", api.Error, api.Div}, {"1 / 0 * nobody", api.Error, api.Div}, {"y * 2 / 0", api.Error, api.Type}, {"1 + nobody * (1 / 0)", api.Error, api.Name}, {"y + 1 / 0", api.Error, api.Div},
	})
}

func TestP6WhatIsNotLookedAt(t *testing.T) {
	expectWorth(t, []worth{
		{"n and nobody", api.Bool, 0}, {"n and 1", api.Bool, 0}, {"n and div", api.Bool, 0}, {"n and nobody and div", api.Bool, 0}, {"y and n and div", api.Bool, 0},
		{"y or nobody", api.Bool, 1}, {"y or 1", api.Bool, 1}, {"y or div or nobody", api.Bool, 1}, {"n or y or div", api.Bool, 1}, {"y or 1 and 2", api.Bool, 1}, {"n and 1 or y", api.Bool, 1},
		{"nobody and n", api.Error, api.Name}, {"div or y", api.Error, api.Div}, {"1 and nobody", api.Error, api.Type}, {"1 or nobody", api.Error, api.Type}, {"1 and div or y", api.Error, api.Type},
		{"if(y, 1, nobody)", api.Int, 1}, {"if(n, div, 2)", api.Int, 2}, {"if(1, nobody, div)", api.Error, api.Type},
		{"if(n and nobody, div, y or type)", api.Bool, 1},
	})
}

func TestP6ValuesFollow(t *testing.T) {
	e := editor(t, "set c = b + 1", "set d = c * 2", "set b = a")
	expectValue(t, e, "d", api.Error, api.Name)
	e.Do("set a = 1")
	expectValue(t, e, "b", api.Int, 1)
	expectValue(t, e, "c", api.Int, 2)
	expectValue(t, e, "d", api.Int, 4)
	e.Do("set a = true")
	expectValue(t, e, "b", api.Bool, 1)
	expectValue(t, e, "d", api.Error, api.Type)
	e.Do("set b = 5")
	expectValue(t, e, "d", api.Int, 12)
	e.Do("rename b x")
	expectValue(t, e, "x", api.Int, 5)
	expectValue(t, e, "d", api.Int, 12)
	e.Do("set x = 6")
	expectValue(t, e, "d", api.Int, 14)
	e.Do("delete x")
	expectValue(t, e, "d", api.Error, api.Name)
	e.Do("rename a x")
	expectValue(t, e, "d", api.Error, api.Type)
	e.Do("set x = 1 / 0")
	expectValue(t, e, "c", api.Error, api.Div)
	expectValue(t, e, "d", api.Error, api.Div)
	e.Do("set x = d")
	expectValue(t, e, "x", api.Error, api.Div)
	e.Do("set c = 3")
	e.Do("set x = d")
	expectValue(t, e, "x", api.Int, 6)
	e.Do("set d = -c")
	expectValue(t, e, "x", api.Int, -3)
}

func TestP6LongChain(t *testing.T) {
	e := editor(t)
	for i := range api.MaxFields - 1 {
		e.Do("set n" + strconv.Itoa(i) + " = n" + strconv.Itoa(i+1) + " + n" + strconv.Itoa(i+1))
	}
	expectNames(t, e, "set n9 = 1", "n9 n8 n7 n6 n5 n4 n3 n2 n1 n0")
	expectValue(t, e, "n0", api.Int, 512)
	expectNames(t, e, "order", "n9 n8 n7 n6 n5 n4 n3 n2 n1 n0")
	expectNames(t, e, "set n4 = 0", "n4 n3 n2 n1 n0")
	expectValue(t, e, "n0", api.Int, 0)
	expectValue(t, e, "n5", api.Int, 16)
	expectCircle(t, e, "set n9 = n5", "n9 n5 n6 n7 n8")
}

func TestP6RuleAndList(t *testing.T) {
	e := editor(t, "set b1=1", "set b=if( a1,- 01,not  b1 )", "set a1 = 2", "set a = 1-1", "set ab = 0", "set a0 = 00")
	expect(t, e, "rule b", api.Reply{Text: "if(a1, -1, not b1)"})
	expect(t, e, " rule  a ", api.Reply{Text: "1 - 1"})
	expect(t, e, "list", api.Reply{Text: "a = 1 - 1\na0 = 0\na1 = 2\nab = 0\nb = if(a1, -1, not b1)\nb1 = 1\n"})
	for _, rule := range []string{"1", "a", "not a", "(((a)))", "a - -b", strings.Repeat("a + ", 24) + "1"} {
		plain, _, _ := Plain(rule)
		e.Do("set q = " + rule)
		expect(t, e, "rule q", api.Reply{Text: plain})
	}
}
