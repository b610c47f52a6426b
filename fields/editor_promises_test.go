package fields

import (
	"math/rand"
	"slices"
	"strings"
	"testing"
	"unsafe"

	"fields/api"
)

var someLines = []string{"set a = b + 1", "set b = 2", "set c = if(a < 3, a, b)", "set d = nobody"}

// checkReply holds what is true of every answer.
func checkReply(t *testing.T, line string, r api.Reply) {
	t.Helper()
	bad := r.At < 0 || r.At > len(line)
	switch r.Err {
	case api.OK:
		bad = bad || r.At != 0
	case api.ErrLong, api.ErrName, api.ErrTwice, api.ErrLimit, api.ErrEmpty:
		bad = bad || !same(r, api.Reply{Err: r.Err})
	case api.ErrToken, api.ErrSyntax, api.ErrDepth:
		bad = bad || !same(r, api.Reply{Err: r.Err, At: r.At})
	case api.ErrCycle:
		bad = bad || len(r.Names) == 0 || !same(r, api.Reply{Err: r.Err, Names: r.Names})
	default:
		bad = true
	}
	if bad || (r.Err == api.ErrLong) != (len(line) > api.MaxLine) {
		t.Fatalf("Do(%.130q) = %+v", line, r)
	}
}

// doAndCheck does a line, and asks that nothing is changed if it has an error.
func doAndCheck(t *testing.T, e *Editor, line string) api.Errno {
	t.Helper()
	before := everything(e)
	r := e.Do(line)
	checkReply(t, line, r)
	if now := everything(e); r.Err != api.OK && now != before {
		t.Fatalf("Do(%q) = %+v changes\n%s\nto\n%s", line, r, before, now)
	}
	return r.Err
}

func TestP1LinesOfAnyBytes(t *testing.T) {
	random := rand.New(rand.NewSource(3))
	const likely = "  0019abcdnotifandortruefalse((()),,+--*/%=<<"
	heads := []string{"set", "set ", "set a =", "set d = ", "set c = (-(-(-", "delete ", "delete", "rename ", "rename a ", "value ", "rule ", "list", "order", "", " ", "begin", "undo", "redo"}
	e := keeping(t, 3, someLines...)
	counts := map[api.Errno]int{}
	for range 30000 {
		text := []byte(heads[random.Intn(len(heads))])
		for range random.Intn(1 + random.Intn(140)) {
			text = append(text, likely[random.Intn(len(likely))])
		}
		if len(text) > 0 && random.Intn(4) == 0 {
			text[random.Intn(len(text))] = byte(random.Intn(256))
		}
		counts[doAndCheck(t, e, string(text))]++
	}
	for _, errno := range []api.Errno{api.OK, api.ErrLong, api.ErrToken, api.ErrSyntax, api.ErrDepth, api.ErrName, api.ErrEmpty} {
		if counts[errno] < 20 {
			t.Errorf("only %d lines with %d among them", counts[errno], errno)
		}
	}
}

func TestP1ShortAndLongLines(t *testing.T) {
	e := editor(t, someLines...)
	for a := range 256 {
		doAndCheck(t, e, string([]byte{byte(a)}))
		doAndCheck(t, e, "set a ="+string([]byte{byte(a)}))
		doAndCheck(t, e, "delete "+string([]byte{byte(a)}))
	}
	for _, piece := range []string{"set ", "set a = ", "rename ", "list", "(", "-", "a", " ", "=", "\x00", "\xff", "a = "} {
		for n := range 60 {
			doAndCheck(t, e, strings.Repeat(piece, n))
			doAndCheck(t, e, "set x = "+strings.Repeat(piece, n))
		}
		doAndCheck(t, e, strings.Repeat(piece, 1000000))
	}
}

func TestP1NothingIsToldThatIsNotAsked(t *testing.T) {
	e := keeping(t, 1, someLines...)
	for _, c := range []struct {
		line  string
		reply api.Reply
	}{
		{"value a", api.Reply{Kind: api.Int, N: 3}},
		{"value d", api.Reply{Kind: api.Error, N: api.Name}},
		{"rule a", api.Reply{Text: "b + 1"}},
		{"list", api.Reply{Text: "a = b + 1\nb = 2\nc = if(a < 3, a, b)\nd = nobody\n"}},
		{"set b = 1", api.Reply{Names: []string{"b", "a", "c"}}},
		{"rename b e", api.Reply{Names: []string{"e", "a", "c"}}},
		{"delete e", api.Reply{Names: []string{"a", "c"}}},
		{"redo", api.Reply{Err: api.ErrEmpty}},
		{"undo", api.Reply{}},
		{"undo", api.Reply{Err: api.ErrEmpty}},
		{"redo", api.Reply{}},
	} {
		expect(t, e, c.line, c.reply)
	}
}

func TestP1AskingChangesNothing(t *testing.T) {
	e := editor(t, someLines...)
	before := everything(e)
	for range 3 {
		for _, line := range []string{"value a", "value nobody", "rule a", "rule nobody", "list", "order"} {
			e.Do(line)
		}
	}
	if now := everything(e); now != before {
		t.Errorf("asking changes\n%s\nto\n%s", before, now)
	}
}

// scribble writes into all of a list, spare room too.
func scribble(names []string) {
	names = names[:cap(names)]
	for i := range names {
		names[i] = "mine"
	}
}

func TestP2WritingIntoNamesChangesNothing(t *testing.T) {
	random := rand.New(rand.NewSource(4))
	d := drawer{random, []string{"a", "b", "c", "d", "e", "f"}}
	e, f := keeping(t, 4), keeping(t, 4)
	for range 2000 {
		line := d.one(d.line(), d.line(), "undo", "redo")
		r, want := e.Do(line), f.Do(line)
		if !same(r, want) {
			t.Fatalf("Do(%q) = %+v, want %+v", line, r, want)
		}
		again := e.Do("order")
		scribble(r.Names)
		scribble(again.Names)
		if everything(e) != everything(f) {
			t.Fatalf("behind %q there is\n%s\nfor\n%s", line, everything(e), everything(f))
		}
	}
}

func TestP2TwoAnswersAreApart(t *testing.T) {
	e := editor(t, someLines...)
	for _, line := range []string{"order", "set b = 2", "set b = a", "delete nobody"} {
		first, second := e.Do(line), e.Do(line)
		kept := slices.Clone(second.Names)
		scribble(first.Names)
		if !slices.Equal(second.Names, kept) {
			t.Errorf("Do(%q) answers twice with the same memory", line)
		}
	}
}

// A line whose bytes are written over behind the call must be neither kept nor handed out.
func TestP2TheLineIsNotKept(t *testing.T) {
	e := keeping(t, 6)
	var told [][]string
	for _, line := range []string{"set abc = nobody + 17", "set xyz = abc", "rename abc other", "set nobody = 3", "set nobody = xyz", "set self = self", "rename xyz last"} {
		bytes := []byte(line)
		told = append(told, e.Do(unsafe.String(&bytes[0], len(bytes))).Names)
		for i := range bytes {
			bytes[i] = '?'
		}
	}
	expect(t, e, "list", api.Reply{Text: "last = other\nnobody = 3\nother = nobody + 17\n"})
	expect(t, e, "value last", api.Reply{Kind: api.Int, N: 20})
	for _, line := range []string{"undo", "undo", "undo", "undo", "redo", "redo", "redo"} {
		expect(t, e, line, api.Reply{})
	}
	expect(t, e, "list", api.Reply{Text: "nobody = 3\nother = nobody + 17\nxyz = other\n"})
	for _, names := range told {
		if strings.Contains(strings.Join(names, ""), "?") {
			t.Errorf("%q", told)
		}
	}
}

func TestP2EditorsAreApart(t *testing.T) {
	drawn := func(seed int64) drawer {
		return drawer{rand.New(rand.NewSource(seed)), []string{"a", "b", "c", "d", "e"}}
	}
	alone := func(seed int64) string {
		e, d := keeping(t, 3), drawn(seed)
		for range 100 {
			e.Do(d.one(d.line(), d.line(), "undo", "redo"))
		}
		return everything(e)
	}
	for seed := range int64(20) {
		e, f := keeping(t, 3), keeping(t, 3)
		d, g := drawn(2*seed), drawn(2*seed+1)
		for range 100 {
			e.Do(d.one(d.line(), d.line(), "undo", "redo"))
			f.Do(g.one(g.line(), g.line(), "undo", "redo"))
		}
		if everything(e) != alone(2*seed) || everything(f) != alone(2*seed+1) {
			t.Fatalf("two editors with the lines drawn by %d and %d are not apart", 2*seed, 2*seed+1)
		}
	}
}
