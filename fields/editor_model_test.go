package fields

import (
	"maps"
	"math/big"
	"math/rand"
	"slices"
	"strconv"
	"strings"
	"testing"

	"fields/api"
)

// plainRules is an editor of another make: it has the plain forms alone, and finds all else out from these each time.
type plainRules map[string]string

// after tells the rules that there would be behind a line, and the field that is edited; or an error.
func (m plainRules) after(line string) (plainRules, string, api.Errno) {
	words := strings.Fields(line)
	name := words[1]
	next := maps.Clone(m)
	switch words[0] {
	case "set":
		next[name] = strings.Join(words[3:], " ")
		if len(next[name]) > api.MaxRule || len(next) > api.MaxFields {
			return m, "", api.ErrLimit
		}
	case "delete":
		delete(next, name)
		if len(next) == len(m) {
			return m, "", api.ErrName
		}
		return next, name, api.OK
	case "rename":
		next = m.renamed(name, words[2])
		_, is := m[name]
		_, twice := m[words[2]]
		switch {
		case !is:
			return m, "", api.ErrName
		case twice:
			return m, "", api.ErrTwice
		case slices.ContainsFunc(slices.Collect(maps.Values(next)), func(rule string) bool { return len(rule) > api.MaxRule }):
			return m, "", api.ErrLimit
		}
		name = words[2]
	}
	if slices.Contains(next.hangOn(name), name) {
		return next, name, api.ErrCycle
	}
	return next, name, api.OK
}

func (m plainRules) renamed(name, to string) plainRules {
	next := plainRules{}
	for field, rule := range m {
		if field == name {
			field = to
		}
		// A name is told from others by one byte that is none of a name on both sides.
		rule = " " + rule + " "
		for _, left := range " (-" {
			for _, right := range " )," {
				old := string(left) + name + string(right)
				for strings.Contains(rule, old) {
					rule = strings.Replace(rule, old, string(left)+"#"+string(right), 1)
				}
			}
		}
		next[field] = strings.ReplaceAll(strings.TrimSpace(rule), "#", to)
	}
	return next
}

// hangOn tells the fields that mention a name, by others too.
func (m plainRules) hangOn(name string) []string {
	found := map[string]bool{}
	for range m {
		for field, rule := range m {
			for _, mentioned := range mentionedIn(rule) {
				if mentioned == name || found[mentioned] {
					found[field] = true
				}
			}
		}
	}
	return slices.Sorted(maps.Keys(found))
}

func (m plainRules) list() string {
	text := ""
	for _, name := range slices.Sorted(maps.Keys(m)) {
		text += name + " = " + m[name] + "\n"
	}
	return text
}

// worth works out a rule in plain form by cutting it at its loosest sign, the last of them.
func (m plainRules) worth(rule string) (int, *big.Int) {
	for _, signs := range [][]string{{" or "}, {" and "}} {
		if left, sign, right, ok := cut(rule, signs); ok {
			return m.either(left, sign, right)
		}
	}
	if inner, ok := strings.CutPrefix(rule, "not "); ok {
		kind, n := m.worth(inner)
		return of(api.Bool, kind, n, func() (int, int64) { return api.Bool, 1 - n.Int64() })
	}
	for _, signs := range [][]string{{" = ", " < "}, {" + ", " - "}, {" * ", " / ", " % "}} {
		if left, sign, right, ok := cut(rule, signs); ok {
			return m.both(left, sign, right)
		}
	}
	return m.single(rule)
}

func cut(rule string, signs []string) (left, sign, right string, ok bool) {
	depth := 0
	for at := len(rule) - 1; at >= 0; at-- {
		switch rule[at] {
		case ')':
			depth++
		case '(':
			depth--
		}
		for _, sign := range signs {
			if depth == 0 && strings.HasPrefix(rule[at:], sign) {
				return rule[:at], sign, rule[at+len(sign):], true
			}
		}
	}
	return "", "", "", false
}

func failing(which int64) (int, *big.Int) { return api.Error, big.NewInt(which) }

// of works on with a value that must be of a kind.
func of(want, kind int, n *big.Int, then func() (int, int64)) (int, *big.Int) {
	if kind == api.Error {
		return kind, n
	}
	if kind != want {
		return failing(api.Type)
	}
	kind, result := then()
	return kind, big.NewInt(result)
}

func (m plainRules) either(left, sign, right string) (int, *big.Int) {
	kind, n := m.worth(left)
	if kind == api.Bool && (n.Sign() == 1) != (sign == " or ") {
		kind, n = m.worth(right)
	}
	return of(api.Bool, kind, n, func() (int, int64) { return kind, n.Int64() })
}

func (m plainRules) both(left, sign, right string) (int, *big.Int) {
	kind, a := m.worth(left)
	if kind == api.Error {
		return kind, a
	}
	other, b := m.worth(right)
	switch {
	case other == api.Error:
		return other, b
	case kind != other || kind == api.Bool && sign != " = ":
		return failing(api.Type)
	case sign == " = ":
		return api.Bool, truthOf(a.Cmp(b) == 0)
	case sign == " < ":
		return api.Bool, truthOf(a.Cmp(b) < 0)
	case (sign == " / " || sign == " % ") && b.Sign() == 0:
		return failing(api.Div)
	}
	result := map[string]func(x, a, b *big.Int) *big.Int{
		" + ": (*big.Int).Add, " - ": (*big.Int).Sub, " * ": (*big.Int).Mul, " / ": (*big.Int).Quo, " % ": (*big.Int).Rem,
	}[sign](new(big.Int), a, b)
	return api.Int, round(result)
}

func truthOf(is bool) *big.Int {
	if is {
		return big.NewInt(1)
	}
	return new(big.Int)
}

// round goes on from the least number above the greatest, and the other way.
func round(n *big.Int) *big.Int {
	all := new(big.Int).Lsh(big.NewInt(1), 64)
	half := new(big.Int).Lsh(big.NewInt(1), 63)
	n = new(big.Int).Mod(new(big.Int).Add(n, half), all)
	return n.Sub(n, half)
}

func (m plainRules) single(rule string) (int, *big.Int) {
	switch {
	case rule == "true" || rule == "false":
		return api.Bool, truthOf(rule == "true")
	case strings.HasPrefix(rule, "-"):
		kind, n := m.worth(rule[1:])
		if kind != api.Int {
			return of(api.Int, kind, n, nil)
		}
		return kind, round(new(big.Int).Neg(n))
	case strings.HasPrefix(rule, "("):
		return m.worth(rule[1 : len(rule)-1])
	case strings.HasPrefix(rule, "if("):
		rest, _, third, _ := cut(rule[3:len(rule)-1], []string{", "})
		first, _, second, _ := cut(rest, []string{", "})
		kind, n := m.worth(first)
		switch {
		case kind != api.Bool:
			return of(api.Bool, kind, n, nil)
		case n.Sign() == 1:
			return m.worth(second)
		}
		return m.worth(third)
	}
	if n, ok := new(big.Int).SetString(rule, 10); ok {
		return api.Int, n
	}
	if text, ok := m[rule]; ok {
		return m.worth(text)
	}
	return failing(api.Name)
}

// A drawer draws lines, in plain form.
type drawer struct {
	*rand.Rand
	names []string
}

func (d drawer) one(of ...string) string { return of[d.Intn(len(of))] }
func (d drawer) name() string            { return d.one(d.names...) }

func (d drawer) numbers(depth int) string {
	rule := d.number(depth)
	for d.Intn(3) == 0 {
		rule += d.one(" + ", " - ", " * ", " / ", " % ") + d.number(depth)
	}
	return rule
}

func (d drawer) number(depth int) string {
	if depth == 0 || d.Intn(3) == 0 {
		return d.one("0", "1", "2", "7", "9223372036854775807", d.name(), d.name(), d.name(), d.one("true", d.name()))
	}
	switch d.Intn(4) {
	case 0:
		return "-" + d.number(depth-1)
	case 1:
		return "(" + d.numbers(depth-1) + ")"
	case 2:
		return "if(" + d.truths(depth-1) + ", " + d.numbers(depth-1) + ", " + d.numbers(depth-1) + ")"
	}
	return d.name()
}

func (d drawer) truths(depth int) string {
	rule := d.truth(depth)
	for d.Intn(3) == 0 {
		rule += d.one(" and ", " or ") + d.truth(depth)
	}
	return rule
}

func (d drawer) truth(depth int) string {
	switch d.Intn(5) {
	case 0:
		return d.one("true", "false", d.name(), d.one("1", d.name()))
	case 1:
		return d.numbers(depth) + d.one(" = ", " < ") + d.numbers(depth)
	case 2:
		return d.numbers(0) + d.one(" = ", " < ") + d.numbers(0)
	}
	if depth == 0 {
		return d.one("true", "false")
	}
	return d.one("not "+d.truth(depth-1), "("+d.truths(depth-1)+")")
}

func (d drawer) line() string {
	switch d.Intn(10) {
	case 0:
		return "delete " + d.name()
	case 1, 2:
		return "rename " + d.name() + " " + d.name()
	case 3:
		return "set " + d.name() + " = " + strconv.Itoa(d.Intn(9))
	case 4, 5:
		return "set " + d.name() + " = " + d.truths(d.Intn(3))
	case 6:
		return "set " + d.name() + " = " + strings.Repeat(d.name()+" + ", 12+d.Intn(10)) + "1"
	}
	return "set " + d.name() + " = " + d.numbers(d.Intn(3))
}

// oneOfAll draws an edit, or a line that turns or groups edits.
func (d drawer) oneOfAll() string {
	return d.one(d.line(), d.line(), d.line(), d.one("undo", "redo"), d.one("undo", "redo"), "begin", d.one("commit", "commit", "cancel"))
}

// follow does an edit, and holds the answer and the editor against the model.
func follow(t *testing.T, e *Editor, m plainRules, line string) (plainRules, api.Errno) {
	t.Helper()
	return followOr(t, e, m, line, everything(e))
}

// followOr is told what there must be if the edit has an error.
func followOr(t *testing.T, e *Editor, m plainRules, line, otherwise string) (plainRules, api.Errno) {
	t.Helper()
	next, name, errno := m.after(line)
	got := e.Do(line)
	if got.Err != errno || got.At != 0 || got.Text != "" || got.Kind != 0 || got.N != 0 {
		t.Fatalf("%sDo(%q) = %+v, want %d", m.list(), line, got, errno)
	}
	if now := everything(e); errno != api.OK && now != otherwise {
		t.Fatalf("%sDo(%q) = %+v, and it is\n%s\nwant\n%s", m.list(), line, got, now, otherwise)
	}
	switch errno {
	case api.OK:
		checkHanging(t, next, line, name, got.Names)
		checkAll(t, e, next)
		return next, errno
	case api.ErrCycle:
		checkCircle(t, next, line, name, got.Names)
	default:
		if len(got.Names) > 0 {
			t.Fatalf("Do(%q) = %+v", line, got)
		}
	}
	return m, errno
}

func checkHanging(t *testing.T, m plainRules, line, name string, got []string) {
	t.Helper()
	want := m.hangOn(name)
	if _, is := m[name]; is {
		want = append(want, name)
	}
	slices.Sort(want)
	_, wrongPlace := firstAheadOfItsMentions(got, func(name string) string { return m[name] })
	if wrongPlace || !slices.Equal(slices.Sorted(slices.Values(got)), want) {
		t.Fatalf("%s%s: %v, want %v in some order", m.list(), line, got, want)
	}
}

func checkCircle(t *testing.T, m plainRules, line, name string, got []string) {
	t.Helper()
	if !slices.Contains(got, name) || len(slices.Compact(slices.Sorted(slices.Values(got)))) != len(got) {
		t.Fatalf("%s%s: %v", m.list(), line, got)
	}
	for i, field := range got {
		if !slices.Contains(mentionedIn(m[field]), got[(i+1)%len(got)]) {
			t.Fatalf("%s%s: %v: see %s", m.list(), line, got, field)
		}
	}
}

func checkAll(t *testing.T, e *Editor, m plainRules) {
	t.Helper()
	if list := e.Do("list").Text; list != m.list() {
		t.Fatalf("list: %s, want %s", list, m.list())
	}
	order := e.Do("order").Names
	if name, ok := firstAheadOfItsMentions(order, func(name string) string { return m[name] }); ok || len(order) != len(m) {
		t.Fatalf("%sorder: %v: %s", m.list(), order, name)
	}
	for _, name := range order {
		kind, n := m.worth(m[name])
		if got := e.Do("value " + name); !same(got, api.Reply{Kind: kind, N: n.Int64()}) {
			t.Fatalf("%svalue %s: %+v, want %d, %d", m.list(), name, got, kind, n)
		}
		if got := e.Do("rule " + name); !same(got, api.Reply{Text: m[name]}) {
			t.Fatalf("rule %s: %+v, want %s", name, got, m[name])
		}
	}
}

func TestP5AndP6DrawnLines(t *testing.T) {
	names := []string{"a", "b", "ab", "c1", "set", "x", "yy", "zzzzzz", "rule", "k", "ifs", "n0", "p"}
	counts := map[api.Errno]int{}
	kinds := map[string]int{}
	for seed := range 300 {
		random := rand.New(rand.NewSource(int64(seed)))
		d := drawer{random, names[:3+random.Intn(len(names)-2)]}
		e, m := editor(t), plainRules{}
		for range 60 {
			line := d.line()
			if len(line) > api.MaxLine {
				continue
			}
			var errno api.Errno
			m, errno = follow(t, e, m, line)
			counts[errno]++
		}
		for name := range m {
			v := e.Do("value " + name)
			kinds[strconv.Itoa(v.Kind)+" "+strconv.FormatInt(v.N, 10)]++
		}
	}
	for _, errno := range []api.Errno{api.OK, api.ErrName, api.ErrTwice, api.ErrLimit, api.ErrCycle} {
		if counts[errno] < 100 {
			t.Errorf("only %d lines with %d among them", counts[errno], errno)
		}
	}
	for _, kind := range []string{"1 0", "2 0", "2 1", "3 1", "3 2", "3 3"} {
		if kinds[kind] < 10 {
			t.Errorf("only %d fields that are worth %s", kinds[kind], kind)
		}
	}
}
