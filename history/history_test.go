package history

import (
	"runtime"
	"slices"
	"testing"
	"weak"

	"fields/api"
)

func expect[T comparable](t *testing.T, what string, got, want T) {
	t.Helper()
	if got != want {
		t.Errorf("%s: %v, want %v", what, got, want)
	}
}

func TestPut(t *testing.T) {
	text := "old"
	turn := Put(&text, "new")
	expect(t, "put", text, "new")
	for range 3 {
		turn = turn()
		expect(t, "taken back", text, "old")
		turn = turn()
		expect(t, "done again", text, "new")
	}
}

func TestAllOfOnePlace(t *testing.T) {
	n := 1
	turn := All(Put(&n, 2), Put(&n, 3), All(Put(&n, 4), Put(&n, 5)))
	for range 3 {
		turn = turn()
		expect(t, "taken back", n, 1)
		turn = turn()
		expect(t, "done again", n, 5)
	}
}

func TestAllGoesFromTheLastToTheFirst(t *testing.T) {
	var steps []string
	step := func(name string) Back {
		return func() Back {
			steps = append(steps, name)
			return func() Back {
				steps = append(steps, name+" again")
				return nil
			}
		}
	}
	All(step("a"), step("b"), step("c"))()()
	if want := []string{"c", "b", "a", "a again", "b again", "c again"}; !slices.Equal(steps, want) {
		t.Errorf("%v, want %v", steps, want)
	}
}

func TestAllOfNone(t *testing.T) {
	turn := All()
	for range 3 {
		turn = turn()
	}
}

func TestUndoAndRedo(t *testing.T) {
	const edits = 9
	for most := range api.MaxUndo + 1 {
		n := 0
		h := History{Most: most}
		expect(t, "undo of nothing", h.Undo(), api.ErrEmpty)
		expect(t, "redo of nothing", h.Redo(), api.ErrEmpty)
		for i := range edits {
			h.Add(Put(&n, i+1))
		}
		for range 2 {
			for i := range most {
				expect(t, "undo", h.Undo(), api.OK)
				expect(t, "behind undo", n, edits-1-i)
			}
			expect(t, "undo behind the last", h.Undo(), api.ErrEmpty)
			for i := range most {
				expect(t, "redo", h.Redo(), api.OK)
				expect(t, "behind redo", n, edits-most+1+i)
			}
			expect(t, "redo behind the last", h.Redo(), api.ErrEmpty)
			expect(t, "at last", n, edits)
		}
	}
}

func TestKeepDropsWhatWasTakenBack(t *testing.T) {
	n := 0
	h := History{Most: 3}
	for i := range 3 {
		h.Add(Put(&n, i+1))
	}
	h.Undo()
	h.Undo()
	h.Add(Put(&n, 7))
	expect(t, "redo", h.Redo(), api.ErrEmpty)
	expect(t, "there is", n, 7)
	for _, want := range []int{1, 0} {
		expect(t, "undo", h.Undo(), api.OK)
		expect(t, "behind undo", n, want)
	}
	expect(t, "undo behind the last", h.Undo(), api.ErrEmpty)
}

func TestAGroupIsOpenOrClosed(t *testing.T) {
	n := 0
	for most := range api.MaxUndo + 1 {
		h := History{Most: most}
		for range 2 {
			expect(t, "commit of none", h.Commit(), api.ErrClosed)
			expect(t, "cancel of none", h.Cancel(), api.ErrClosed)
			expect(t, "begin", h.Begin(), api.OK)
			expect(t, "begin of a second", h.Begin(), api.ErrOpen)
			h.Add(Put(&n, 1))
			expect(t, "begin of a second", h.Begin(), api.ErrOpen)
			expect(t, "commit", h.Commit(), api.OK)
			expect(t, "commit once more", h.Commit(), api.ErrClosed)
			expect(t, "begin", h.Begin(), api.OK)
			expect(t, "cancel", h.Cancel(), api.OK)
			expect(t, "cancel once more", h.Cancel(), api.ErrClosed)
		}
	}
}

func TestCommitMakesOneEdit(t *testing.T) {
	for edits := range 5 {
		n := 0
		h := History{Most: 2}
		h.Add(Put(&n, 10))
		h.Begin()
		for i := range edits {
			h.Add(Put(&n, 11+i))
		}
		expect(t, "within", n, 10+edits)
		h.Commit()
		expect(t, "behind commit", n, 10+edits)
		h.Begin()
		h.Commit()
		for range 3 {
			expect(t, "undo of a group of none", h.Undo(), api.OK)
			expect(t, "behind it", n, 10+edits)
			expect(t, "undo of a group", h.Undo(), api.OK)
			expect(t, "behind it", n, 10)
			expect(t, "undo of what was pushed out", h.Undo(), api.ErrEmpty)
			expect(t, "redo of a group", h.Redo(), api.OK)
			expect(t, "behind it", n, 10+edits)
			expect(t, "redo of a group of none", h.Redo(), api.OK)
			expect(t, "behind it", n, 10+edits)
			expect(t, "redo behind the last", h.Redo(), api.ErrEmpty)
		}
	}
}

func TestCancelTakesAllBack(t *testing.T) {
	for most := range 3 {
		n, m := 0, 0
		h := History{Most: most}
		h.Add(Put(&n, 1))
		h.Begin()
		for i := range 5 {
			h.Add(Put(&n, 2+i))
			h.Add(All(Put(&m, 3+i), Put(&n, 4+i), Put(&m, 5+i)))
		}
		h.Cancel()
		expect(t, "the one place", n, 1)
		expect(t, "the other place", m, 0)
	}
}

// Only what is committed is a new edit.
func TestWhatIsLeftBehindAGroup(t *testing.T) {
	n := 0
	h := History{Most: 3}
	for i := range 3 {
		h.Add(Put(&n, i+1))
	}
	h.Undo()
	for range 2 {
		h.Begin()
		expect(t, "undo within", h.Undo(), api.ErrOpen)
		expect(t, "redo within", h.Redo(), api.ErrOpen)
		for range 4 {
			h.Add(Put(&n, 9))
		}
		h.Cancel()
		expect(t, "behind cancel", n, 2)
		expect(t, "redo", h.Redo(), api.OK)
		expect(t, "behind redo", n, 3)
		expect(t, "undo", h.Undo(), api.OK)
	}
	h.Begin()
	h.Add(Put(&n, 9))
	h.Commit()
	expect(t, "redo behind commit", h.Redo(), api.ErrEmpty)
	for _, want := range []int{2, 1, 0} {
		expect(t, "undo", h.Undo(), api.OK)
		expect(t, "behind undo", n, want)
	}
	h.Begin()
	expect(t, "undo within, of nothing", h.Undo(), api.ErrOpen)
	h.Commit()
	expect(t, "redo behind a group of none", h.Redo(), api.ErrEmpty)
}

// What can't be taken back or done again any more must not be kept, in spare room neither.
func TestNoMoreIsKept(t *testing.T) {
	n := 0
	count := func(backs []Back) (all int) {
		for _, back := range backs[:cap(backs)] {
			if back != nil {
				all++
			}
		}
		return all
	}
	for most := range api.MaxUndo + 1 {
		h := History{Most: most}
		for i := range 20 {
			h.Add(Put(&n, i))
			expect(t, "kept", count(h.done), min(i+1, most))
		}
		for i := range most {
			h.Undo()
			expect(t, "kept behind undo", count(h.done), most-1-i)
			expect(t, "kept to be done again", count(h.undone), i+1)
		}
		h.Redo()
		expect(t, "kept behind redo", count(h.done), min(1, most))
		h.Add(Put(&n, 99))
		expect(t, "kept to be done again behind an edit", count(h.undone), 0)
	}
}

func TestAnEditThatIsDroppedIsFreed(t *testing.T) {
	h := History{Most: 3}
	var places []weak.Pointer[[64]int]
	for range 10 {
		place := new([64]int)
		places = append(places, weak.Make(place))
		h.Add(Put(place, [64]int{1}))
		runtime.GC()
		for i, place := range places {
			if kept := i >= len(places)-h.Most; kept != (place.Value() != nil) {
				t.Errorf("behind edit %d: edit %d is kept: %v, want %v", len(places)-1, i, !kept, kept)
			}
		}
	}
	runtime.KeepAlive(&h)
}

// Each edit of a group is kept while the group is open, and as long as the group is kept; no longer.
func TestAGroupThatIsDroppedIsFreed(t *testing.T) {
	for _, c := range []struct {
		name string
		most int
		end  func(h *History)
		kept bool
	}{
		{"open", 0, func(h *History) {}, true},
		{"cancelled", 3, func(h *History) { h.Cancel() }, false},
		{"committed, with none kept", 0, func(h *History) { h.Commit() }, false},
		{"committed", 1, func(h *History) { h.Commit() }, true},
		{"taken back", 1, func(h *History) { h.Commit(); h.Undo() }, true},
		{"pushed out", 1, func(h *History) { h.Commit(); h.Begin(); h.Commit() }, false},
		{"taken back ahead of a new one", 1, func(h *History) { h.Commit(); h.Undo(); h.Begin(); h.Commit() }, false},
	} {
		h := History{Most: c.most}
		h.Begin()
		var places []weak.Pointer[[64]int]
		for range 5 {
			place := new([64]int)
			places = append(places, weak.Make(place))
			h.Add(Put(place, [64]int{1}))
		}
		c.end(&h)
		runtime.GC()
		for i, place := range places {
			if kept := place.Value() != nil; kept != c.kept {
				t.Errorf("a group %s: edit %d is kept: %v, want %v", c.name, i, kept, c.kept)
			}
		}
		runtime.KeepAlive(&h)
	}
}
