package fields

import (
	"math/rand"
	"strings"
	"sync"
	"testing"
	"unsafe"

	"fields/api"
)

// checkAnswer holds what is true of Plain at every text.
func checkAnswer(t *testing.T, rule string) {
	t.Helper()
	s, e, at := Plain(rule)
	switch e {
	case api.OK:
		again, e2, at2 := Plain(s)
		if s == "" || len(s) > api.MaxRule || at != 0 || again != s || e2 != api.OK || at2 != 0 {
			t.Fatalf("Plain(%q) = %q, OK, %d; of that: %q, %d, %d", rule, s, at, again, e2, at2)
		}
	case api.ErrLong, api.ErrLimit:
		if s != "" || at != 0 {
			t.Fatalf("Plain(%q) = %q, %d, %d", rule, s, e, at)
		}
	case api.ErrToken, api.ErrDepth:
		if s != "" || at < 0 || at >= len(rule) {
			t.Fatalf("Plain(%q) = %q, %d, %d", rule, s, e, at)
		}
	case api.ErrSyntax:
		if s != "" || at < 0 || at > len(rule) {
			t.Fatalf("Plain(%q) = %q, %d, %d", rule, s, e, at)
		}
	default:
		t.Fatalf("Plain(%q) = %q, %d, %d", rule, s, e, at)
	}
	if (e == api.ErrLong) != (len(rule) > api.MaxLine) {
		t.Fatalf("Plain of %d bytes: %d", len(rule), e)
	}
}

func TestP1ShortTexts(t *testing.T) {
	checkAnswer(t, "")
	for a := range 256 {
		checkAnswer(t, string([]byte{byte(a)}))
		for b := range 256 {
			checkAnswer(t, string([]byte{byte(a), byte(b)}))
		}
	}
}

func TestP1AnyBytes(t *testing.T) {
	random := rand.New(rand.NewSource(2))
	const likely = "  0019abnotifandortruefalse((()),,+--*/%=<<"
	for range 100000 {
		text := make([]byte, random.Intn(api.MaxLine+10))
		for i := range text {
			text[i] = likely[random.Intn(len(likely))]
		}
		if len(text) > 0 && random.Intn(3) == 0 {
			text[random.Intn(len(text))] = byte(random.Intn(256))
		}
		checkAnswer(t, string(text))
	}
}

func TestP1DeepAndLongTexts(t *testing.T) {
	for _, piece := range []string{"(", "-", "not ", "if(", ")", "1", "a", " ", "1+", "a or ", "(1)", "\x00", "\xff", "if(1,"} {
		for n := range 130 {
			checkAnswer(t, strings.Repeat(piece, n))
		}
		checkAnswer(t, strings.Repeat(piece, 1000000))
	}
}

func TestP1ErrorNamedFirst(t *testing.T) {
	expectWrong(t, []wrong{
		{"?" + strings.Repeat("(", api.MaxLine), api.ErrLong, 0},
		{") ((((((( ?", api.ErrToken, 10},
		{"((((((( ?", api.ErrToken, 8},
		{strings.Repeat("a+", 58) + "a ?", api.ErrToken, 118},
		{strings.Repeat("a+", 58) + "a )", api.ErrSyntax, 118},
		{strings.Repeat("a+", 51) + "((((((-1))))))", api.ErrDepth, 108},
	})
}

type answer struct {
	s  string
	e  api.Errno
	at int
}

func ask(rule string) answer {
	s, e, at := Plain(rule)
	return answer{s, e, at}
}

var mixed = []string{"1--a", "", "(((((((", "a b", "?", "not a=b", "if(a,b,c)", "1<2<3", "------1", strings.Repeat("a+", 59) + "a", strings.Repeat(" ", 121)}

func TestP2AnswerHangsOnTheArgumentAlone(t *testing.T) {
	first := map[string]answer{}
	for _, rule := range mixed {
		first[rule] = ask(rule)
	}
	for _, ahead := range mixed {
		for _, rule := range mixed {
			ask(ahead)
			if got := ask(rule); got != first[rule] {
				t.Errorf("behind Plain(%q) Plain(%q) is %v, was %v", ahead, rule, got, first[rule])
			}
		}
	}
}

func TestP2CallsAtTheSameTime(t *testing.T) {
	want := make([]answer, len(mixed))
	for i, rule := range mixed {
		want[i] = ask(rule)
	}
	var all sync.WaitGroup
	for i, rule := range mixed {
		all.Add(1)
		go func() {
			defer all.Done()
			for range 200 {
				if got := ask(rule); got != want[i] {
					t.Errorf("Plain(%q) is %v, was %v", rule, got, want[i])
				}
			}
		}()
	}
	all.Wait()
}

func TestP2NewMemory(t *testing.T) {
	for _, rule := range []string{"a", "1", "true", "abcdef", "a + b", "not (a)", "  a", "if(a, b, c)"} {
		s, _, _ := Plain(rule)
		from := uintptr(unsafe.Pointer(unsafe.StringData(rule)))
		got := uintptr(unsafe.Pointer(unsafe.StringData(s)))
		if got < from+uintptr(len(rule)) && from < got+uintptr(len(s)) {
			t.Errorf("Plain(%q) shares memory with its argument", rule)
		}
	}
}
