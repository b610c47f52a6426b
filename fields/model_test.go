package fields

import (
	"math/rand"
	"strings"
	"testing"

	"fields/api"
)

// The model tells what Plain must answer by a row of states and a stack, not by the levels of the grammar,
// so that a slip in the one does not stand in the other too.
type model struct {
	nest      []string // "(", "-", "not" that are not over, and for `if` its open bracket: "if2", "if1", "if0" by the commas to come
	compared  []bool   // for each open bracket, and for none: whether this TEST has its `=` or `<`
	want      string   // "test", "sum": an operand; "open": the bracket of an `if`; "more": what goes on behind an operand
	plainText string
}

func newModel() *model {
	return &model{compared: []bool{false}, want: "test"}
}

func (m *model) top() string {
	if len(m.nest) == 0 {
		return ""
	}
	return m.nest[len(m.nest)-1]
}

func (m *model) drop(sign string) {
	for m.top() == sign {
		m.nest = m.nest[:len(m.nest)-1]
	}
}

func (m *model) setCompared(is bool) { m.compared[len(m.compared)-1] = is }

func (m *model) push(sign, want string) api.Errno {
	if len(m.nest) == api.MaxDepth {
		return api.ErrDepth
	}
	m.nest = append(m.nest, sign)
	if sign != "-" && sign != "not" {
		m.compared = append(m.compared, false)
	}
	m.want = want
	return api.OK
}

func (m *model) operandOver() {
	m.drop("-")
	m.want = "more"
}

func (m *model) token(tok string) api.Errno {
	e := api.ErrSyntax
	switch m.want {
	case "open":
		if tok == "(" {
			e = m.push("if2", "test")
		}
	case "more":
		e = m.goOn(tok)
	default:
		e = m.operand(tok)
		if e == api.OK && tok == "-" {
			tok = "~"
		}
	}
	m.plainText += " " + tok
	return e
}

func (m *model) operand(tok string) api.Errno {
	switch tok {
	case "-":
		return m.push("-", "sum")
	case "not":
		if m.want == "test" {
			return m.push("not", "test")
		}
		return api.ErrSyntax
	case "(":
		return m.push("(", "test")
	case "if":
		m.want = "open"
		return api.OK
	}
	if !strings.Contains(" 1 a true false ", " "+tok+" ") {
		return api.ErrSyntax
	}
	m.operandOver()
	return api.OK
}

func (m *model) goOn(tok string) api.Errno {
	switch tok {
	case "+", "-", "*", "/", "%":
		m.want = "sum"
		return api.OK
	case "=", "<":
		if m.compared[len(m.compared)-1] {
			return api.ErrSyntax
		}
		m.setCompared(true)
		m.want = "sum"
		return api.OK
	case "and", "or":
		m.drop("not")
		m.setCompared(false)
		m.want = "test"
		return api.OK
	case ",":
		m.drop("not")
		if m.top() != "if2" && m.top() != "if1" {
			return api.ErrSyntax
		}
		m.nest[len(m.nest)-1] = map[string]string{"if2": "if1", "if1": "if0"}[m.top()]
		m.setCompared(false)
		m.want = "test"
		return api.OK
	case ")":
		m.drop("not")
		if m.top() != "(" && m.top() != "if0" {
			return api.ErrSyntax
		}
		m.nest = m.nest[:len(m.nest)-1]
		m.compared = m.compared[:len(m.compared)-1]
		m.operandOver()
		return api.OK
	}
	return api.ErrSyntax
}

func (m *model) over() bool {
	return m.want == "more" && len(m.compared) == 1
}

func (m *model) plain() string {
	plain := m.plainText[1:]
	for _, change := range [][2]string{{"~ ", "-"}, {"if (", "if("}, {"( ", "("}, {" )", ")"}, {" ,", ","}} {
		plain = strings.ReplaceAll(plain, change[0], change[1])
	}
	return plain
}

func expected(tokens []string) (string, api.Errno, int) {
	m := newModel()
	at := 0
	for _, tok := range tokens {
		if e := m.token(tok); e != api.OK {
			return "", e, at
		}
		at += len(tok) + 1
	}
	if !m.over() {
		return "", api.ErrSyntax, max(at-1, 0)
	}
	if plain := m.plain(); len(plain) <= api.MaxRule {
		return plain, api.OK, 0
	}
	return "", api.ErrLimit, 0
}

func compare(t *testing.T, tokens []string) api.Errno {
	t.Helper()
	rule := strings.Join(tokens, " ")
	if len(rule) > api.MaxLine {
		return api.ErrLong
	}
	s, e, at := Plain(rule)
	if ws, we, wat := expected(tokens); s != ws || e != we || at != wat {
		t.Fatalf("Plain(%q) = %q, %d, %d, want %q, %d, %d", rule, s, e, at, ws, we, wat)
	}
	return e
}

var allTokens = []string{"1", "a", "true", "false", "if", "and", "or", "not", "(", ")", ",", "+", "-", "*", "/", "%", "=", "<"}

func TestP3EveryShortRowOfTokens(t *testing.T) {
	some := []string{"1", "if", "or", "not", "(", ")", ",", "-", "*", "="}
	var extend func(row []string, left int)
	extend = func(row []string, left int) {
		compare(t, row)
		if left == 0 {
			return
		}
		for _, tok := range some {
			extend(append(row, tok), left-1)
		}
	}
	for _, head := range []string{"", "( ( ( ( (", "not not not not -", "if ( if ( 1 , - ( 1", "not not 1 = ( ( ("} {
		extend(strings.Fields(head), 4)
	}
}

// after tells the model behind a row of tokens, and whether all of them could stand there.
func after(row []string) (*model, bool) {
	m := newModel()
	for _, tok := range row {
		if m.token(tok) != api.OK {
			return m, false
		}
	}
	return m, true
}

// finish ends a row that can be ended, as a RULE.
func finish(row []string) []string {
	for range 30 {
		if m, ok := after(row); !ok || m.over() {
			return row
		}
		for _, tok := range []string{"1", "(", ",", ")"} {
			longer := append(row, tok)
			if _, ok := after(longer); ok {
				row = longer
				break
			}
		}
	}
	return row
}

func TestP3LongRowsOfTokens(t *testing.T) {
	random := rand.New(rand.NewSource(1))
	counts := map[api.Errno]int{}
	for range 20000 {
		var row []string
		for range random.Intn(100) {
			row = append(row, allTokens[random.Intn(len(allTokens))])
			// Most wrong tokens are taken back, so that rows get long and deep.
			if _, ok := after(row); !ok && random.Intn(100) > 0 {
				row = row[:len(row)-1]
			}
		}
		if random.Intn(2) == 0 {
			row = finish(row)
		}
		counts[compare(t, row)]++
	}
	for _, e := range []api.Errno{api.OK, api.ErrSyntax, api.ErrDepth, api.ErrLimit} {
		if counts[e] < 20 {
			t.Errorf("only %d rows with %d among them", counts[e], e)
		}
	}
}
