package fields

import (
	"math/rand"
	"slices"
	"strings"
	"testing"
	"unsafe"

	"fields/api"
)

var someLines = []string{"set a = b + 1", "set b = 2", "set c = if(a < 3, a, b)", "set d = nobody"}

// checkReply holds what is true of every answer.
func checkReply(t *testing.T, line string, r api.Reply) {
	t.Helper()
	bad := r.At < 0 || r.At > len(line)
	switch r.Err {
	case api.OK:
		bad = bad || r.At != 0
	case api.ErrLong, api.ErrName, api.ErrTwice, api.ErrLimit, api.ErrOpen, api.ErrClosed, api.ErrEmpty:
		bad = bad || !same(r, api.Reply{Err: r.Err})
	case api.ErrToken, api.ErrSyntax, api.ErrDepth:
		bad = bad || !same(r, api.Reply{Err: r.Err, At: r.At})
	case api.ErrCycle:
		bad = bad || len(r.Names) == 0 || !same(r, api.Reply{Err: r.Err, Names: r.Names})
	default:
		bad = true
	}
	if bad || (r.Err == api.ErrLong) != (len(line) > api.MaxLine) {
		t.Fatalf("Do(%.130q) = %+v", line, r)
	}
}

// watched is an editor, and what a test knows of its group.
type watched struct {
	*Editor
	open    bool
	atBegin string
}

// firstWord is right for a line of which each byte begins a token or stands in one.
func firstWord(line string) string {
	line = strings.TrimLeft(line, " ")
	end := strings.IndexFunc(line, func(r rune) bool { return !strings.ContainsRune("abcdefghijklmnopqrstuvwxyz0123456789", r) })
	if end < 0 {
		return line
	}
	return line[:end]
}

// closesAGroup tells whether a line with an error closes a group that is open (P7).
func closesAGroup(line string, errno api.Errno) bool {
	return errno != api.OK && errno != api.ErrLong && errno != api.ErrToken && slices.Contains([]string{"set", "delete", "rename"}, firstWord(line))
}

// isOpen tells whether a group is open, and leaves all as it is.
func isOpen(e *Editor) bool {
	if e.Do("begin").Err == api.ErrOpen {
		return true
	}
	e.Do("cancel")
	return false
}

// doAndCheck does a line, and asks that nothing is changed if it has an error, but for a group that it closes.
func (w *watched) doAndCheck(t *testing.T, line string) api.Errno {
	t.Helper()
	before := everything(w.Editor)
	r := w.Do(line)
	checkReply(t, line, r)
	now, want, head := everything(w.Editor), before, firstWord(line)
	switch {
	case r.Err == api.OK && head == "begin":
		w.open, w.atBegin = true, before
	case r.Err == api.OK && head == "commit":
		w.open = false
	case r.Err == api.OK && head == "cancel", w.open && closesAGroup(line, r.Err):
		w.open, want = false, w.atBegin
	case r.Err == api.OK:
		want = now
	}
	if now != want {
		t.Fatalf("Do(%q) = %+v changes\n%s\nto\n%s\nwant\n%s", line, r, before, now, want)
	}
	if open := isOpen(w.Editor); open != w.open {
		t.Fatalf("behind Do(%q) = %+v a group is open: %v, want %v", line, r, open, w.open)
	}
	return r.Err
}

func TestP1LinesOfAnyBytes(t *testing.T) {
	random := rand.New(rand.NewSource(3))
	const likely = "  0019abcdnotifandortruefalse((()),,+--*/%=<<"
	heads := []string{
		"set", "set ", "set a =", "set d = ", "set c = (-(-(-", "delete ", "delete", "rename ", "rename a ", "value ", "rule ", "list", "order", "", " ",
		"begin", "commit", "cancel", "undo", "redo",
	}
	wholes := []string{"begin", "begin", "begin", "begin", "commit", "cancel", "undo", "redo", "set b = 3", "set a = 5"}
	w := watched{Editor: keeping(t, 3, someLines...)}
	counts := map[api.Errno]int{}
	within := map[api.Errno]int{}
	for range 30000 {
		text := []byte(heads[random.Intn(len(heads))])
		for range random.Intn(1 + random.Intn(140)) {
			text = append(text, likely[random.Intn(len(likely))])
		}
		if len(text) > 0 && random.Intn(4) == 0 {
			text[random.Intn(len(text))] = byte(random.Intn(256))
		}
		if random.Intn(2) == 0 {
			text = []byte(wholes[random.Intn(len(wholes))])
		}
		open := w.open
		errno := w.doAndCheck(t, string(text))
		counts[errno]++
		if open {
			within[errno]++
		}
	}
	for _, errno := range []api.Errno{api.OK, api.ErrLong, api.ErrToken, api.ErrSyntax, api.ErrDepth, api.ErrName, api.ErrOpen, api.ErrClosed, api.ErrEmpty} {
		if counts[errno] < 20 {
			t.Errorf("only %d lines with %d among them", counts[errno], errno)
		}
	}
	for _, errno := range []api.Errno{api.OK, api.ErrLong, api.ErrToken, api.ErrSyntax, api.ErrDepth, api.ErrName, api.ErrOpen} {
		if within[errno] < 20 {
			t.Errorf("only %d lines with %d within a group among them", within[errno], errno)
		}
	}
}

func TestP1ShortAndLongLines(t *testing.T) {
	w := watched{Editor: editor(t, someLines...)}
	for a := range 256 {
		w.doAndCheck(t, "begin")
		w.doAndCheck(t, string([]byte{byte(a)}))
		w.doAndCheck(t, "set a ="+string([]byte{byte(a)}))
		w.doAndCheck(t, "delete "+string([]byte{byte(a)}))
	}
	for _, piece := range []string{"set ", "set a = ", "rename ", "list", "begin", "commit ", "cancel", "(", "-", "a", " ", "=", "\x00", "\xff", "a = "} {
		for n := range 60 {
			w.doAndCheck(t, strings.Repeat(piece, n))
			w.doAndCheck(t, "set x = "+strings.Repeat(piece, n))
		}
		w.doAndCheck(t, strings.Repeat(piece, 1000000))
	}
}

func TestP1NothingIsToldThatIsNotAsked(t *testing.T) {
	e := keeping(t, 1, someLines...)
	for _, c := range []struct {
		line  string
		reply api.Reply
	}{
		{"value a", api.Reply{Kind: api.Int, N: 3}},
		{"value d", api.Reply{Kind: api.Error, N: api.Name}},
		{"rule a", api.Reply{Text: "b + 1"}},
		{"list", api.Reply{Text: "a = b + 1\nb = 2\nc = if(a < 3, a, b)\nd = nobody\n"}},
		{"set b = 1", api.Reply{Names: []string{"b", "a", "c"}}},
		{"rename b e", api.Reply{Names: []string{"e", "a", "c"}}},
		{"delete e", api.Reply{Names: []string{"a", "c"}}},
		{"redo", api.Reply{Err: api.ErrEmpty}},
		{"undo", api.Reply{}},
		{"undo", api.Reply{Err: api.ErrEmpty}},
		{"redo", api.Reply{}},
		{"commit", api.Reply{Err: api.ErrClosed}},
		{"cancel", api.Reply{Err: api.ErrClosed}},
		{"begin", api.Reply{}},
		{"begin", api.Reply{Err: api.ErrOpen}},
		{"undo", api.Reply{Err: api.ErrOpen}},
		{"redo", api.Reply{Err: api.ErrOpen}},
		{"set e = d", api.Reply{Names: []string{"e", "a", "c"}}},
		{"value e", api.Reply{Kind: api.Error, N: api.Name}},
		{"commit", api.Reply{}},
		{"undo", api.Reply{}},
		{"redo", api.Reply{}},
		{"begin", api.Reply{}},
		{"set d = 4", api.Reply{Names: []string{"d", "e", "a", "c"}}},
		{"cancel", api.Reply{}},
		{"begin", api.Reply{}},
		{"set d = 5", api.Reply{Names: []string{"d", "e", "a", "c"}}},
		{"set d = d", api.Reply{Err: api.ErrCycle, Names: []string{"d"}}},
		{"cancel", api.Reply{Err: api.ErrClosed}},
		{"value e", api.Reply{Kind: api.Error, N: api.Name}},
	} {
		expect(t, e, c.line, c.reply)
	}
}

func TestP1AskingChangesNothing(t *testing.T) {
	e := editor(t, someLines...)
	before := everything(e)
	for range 3 {
		for _, line := range []string{"value a", "value nobody", "rule a", "rule nobody", "list", "order"} {
			e.Do(line)
		}
	}
	if now := everything(e); now != before {
		t.Errorf("asking changes\n%s\nto\n%s", before, now)
	}
}

// scribble writes into all of a list, spare room too.
func scribble(names []string) {
	names = names[:cap(names)]
	for i := range names {
		names[i] = "mine"
	}
}

func TestP2WritingIntoNamesChangesNothing(t *testing.T) {
	random := rand.New(rand.NewSource(4))
	d := drawer{random, []string{"a", "b", "c", "d", "e", "f"}}
	e, f := keeping(t, 4), keeping(t, 4)
	for range 2000 {
		line := d.oneOfAll()
		r, want := e.Do(line), f.Do(line)
		if !same(r, want) {
			t.Fatalf("Do(%q) = %+v, want %+v", line, r, want)
		}
		again := e.Do("order")
		scribble(r.Names)
		scribble(again.Names)
		if everything(e) != everything(f) {
			t.Fatalf("behind %q there is\n%s\nfor\n%s", line, everything(e), everything(f))
		}
	}
}

func TestP2TwoAnswersAreApart(t *testing.T) {
	e := editor(t, someLines...)
	for _, line := range []string{"order", "set b = 2", "set b = a", "delete nobody"} {
		first, second := e.Do(line), e.Do(line)
		kept := slices.Clone(second.Names)
		scribble(first.Names)
		if !slices.Equal(second.Names, kept) {
			t.Errorf("Do(%q) answers twice with the same memory", line)
		}
	}
}

// doAndOverwrite does a line, and writes over its bytes behind the call.
func doAndOverwrite(e *Editor, line string) api.Reply {
	bytes := []byte(line)
	r := e.Do(unsafe.String(&bytes[0], len(bytes)))
	for i := range bytes {
		bytes[i] = '?'
	}
	return r
}

// What was written over must be neither kept nor handed out.
func TestP2TheLineIsNotKept(t *testing.T) {
	e := keeping(t, 6)
	var told []string
	for _, line := range []string{"set abc = nobody + 17", "set xyz = abc", "rename abc other", "set nobody = 3", "set nobody = xyz", "set self = self", "rename xyz last"} {
		told = append(told, doAndOverwrite(e, line).Names...)
	}
	expect(t, e, "list", api.Reply{Text: "last = other\nnobody = 3\nother = nobody + 17\n"})
	expect(t, e, "value last", api.Reply{Kind: api.Int, N: 20})
	for _, line := range []string{"undo", "undo", "undo", "undo", "redo", "redo", "redo"} {
		expect(t, e, line, api.Reply{})
	}
	expect(t, e, "list", api.Reply{Text: "nobody = 3\nother = nobody + 17\nxyz = other\n"})
	if strings.Contains(strings.Join(told, ""), "?") {
		t.Errorf("%q", told)
	}
}

func TestP2TheLinesOfAGroupAreNotKept(t *testing.T) {
	e := keeping(t, 6)
	for _, line := range []string{"set abc = nobody + 17", "begin", "set xyz = abc", "rename abc other", "commit", "begin", "rename other more", "delete xyz", "set nobody = 5", "cancel"} {
		doAndOverwrite(e, line)
	}
	expect(t, e, "list", api.Reply{Text: "other = nobody + 17\nxyz = other\n"})
	expect(t, e, "undo", api.Reply{})
	expect(t, e, "list", api.Reply{Text: "abc = nobody + 17\n"})
	expect(t, e, "redo", api.Reply{})
	expect(t, e, "list", api.Reply{Text: "other = nobody + 17\nxyz = other\n"})
}

func TestP2EditorsAreApart(t *testing.T) {
	drawn := func(seed int64) drawer {
		return drawer{rand.New(rand.NewSource(seed)), []string{"a", "b", "c", "d", "e"}}
	}
	alone := func(seed int64) string {
		e, d := keeping(t, 3), drawn(seed)
		for range 100 {
			e.Do(d.oneOfAll())
		}
		return everything(e)
	}
	for seed := range int64(20) {
		e, f := keeping(t, 3), keeping(t, 3)
		d, g := drawn(2*seed), drawn(2*seed+1)
		for range 100 {
			e.Do(d.oneOfAll())
			f.Do(g.oneOfAll())
		}
		if everything(e) != alone(2*seed) || everything(f) != alone(2*seed+1) {
			t.Fatalf("two editors with the lines drawn by %d and %d are not apart", 2*seed, 2*seed+1)
		}
	}
}

func TestP2AnOpenGroupIsOfOneEditorAlone(t *testing.T) {
	e := keeping(t, 2, "set a = 1", "begin", "set a = 2")
	f := keeping(t, 2, "set a = 1")
	g := keeping(t, 2)
	expectRefused(t, f, "commit", api.ErrClosed, 0)
	expectRefused(t, g, "cancel", api.ErrClosed, 0)
	expect(t, f, "undo", api.Reply{})
	expectRefused(t, g, "undo", api.ErrEmpty, 0)
	expect(t, f, "begin", api.Reply{})
	expectNames(t, f, "set a = 3", "a")
	expectRefused(t, g, "delete a", api.ErrName, 0)
	expectRefused(t, f, "begin", api.ErrOpen, 0)
	expect(t, f, "delete nobody", api.Reply{Err: api.ErrName})
	expect(t, f, "list", api.Reply{})
	expect(t, e, "list", api.Reply{Text: "a = 2\n"})
	expectRefused(t, e, "begin", api.ErrOpen, 0)
	expect(t, f, "redo", api.Reply{})
	expect(t, f, "begin", api.Reply{})
	expect(t, e, "commit", api.Reply{})
	expectRefused(t, f, "redo", api.ErrOpen, 0)
	expect(t, f, "cancel", api.Reply{})
	expect(t, f, "list", api.Reply{Text: "a = 1\n"})
	expect(t, e, "list", api.Reply{Text: "a = 2\n"})
	expect(t, g, "list", api.Reply{})
}
