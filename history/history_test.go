package history

import (
	"runtime"
	"slices"
	"testing"
	"weak"

	"fields/api"
)

func expect[T comparable](t *testing.T, what string, got, want T) {
	t.Helper()
	if got != want {
		t.Errorf("%s: %v, want %v", what, got, want)
	}
}

func TestPut(t *testing.T) {
	text := "old"
	turn := Put(&text, "new")
	expect(t, "put", text, "new")
	for range 3 {
		turn = turn()
		expect(t, "taken back", text, "old")
		turn = turn()
		expect(t, "done again", text, "new")
	}
}

func TestAllOfOnePlace(t *testing.T) {
	n := 1
	turn := All(Put(&n, 2), Put(&n, 3), All(Put(&n, 4), Put(&n, 5)))
	for range 3 {
		turn = turn()
		expect(t, "taken back", n, 1)
		turn = turn()
		expect(t, "done again", n, 5)
	}
}

func TestAllGoesFromTheLastToTheFirst(t *testing.T) {
	var steps []string
	step := func(name string) Back {
		return func() Back {
			steps = append(steps, name)
			return func() Back {
				steps = append(steps, name+" again")
				return nil
			}
		}
	}
	All(step("a"), step("b"), step("c"))()()
	if want := []string{"c", "b", "a", "a again", "b again", "c again"}; !slices.Equal(steps, want) {
		t.Errorf("%v, want %v", steps, want)
	}
}

func TestAllOfNone(t *testing.T) {
	turn := All()
	for range 3 {
		turn = turn()
	}
}

func TestUndoAndRedo(t *testing.T) {
	const edits = 9
	for most := range api.MaxUndo + 1 {
		n := 0
		h := History{Most: most}
		expect(t, "undo of nothing", h.Undo(), api.ErrEmpty)
		expect(t, "redo of nothing", h.Redo(), api.ErrEmpty)
		for i := range edits {
			h.Keep(Put(&n, i+1))
		}
		for range 2 {
			for i := range most {
				expect(t, "undo", h.Undo(), api.OK)
				expect(t, "behind undo", n, edits-1-i)
			}
			expect(t, "undo behind the last", h.Undo(), api.ErrEmpty)
			for i := range most {
				expect(t, "redo", h.Redo(), api.OK)
				expect(t, "behind redo", n, edits-most+1+i)
			}
			expect(t, "redo behind the last", h.Redo(), api.ErrEmpty)
			expect(t, "at last", n, edits)
		}
	}
}

func TestKeepDropsWhatWasTakenBack(t *testing.T) {
	n := 0
	h := History{Most: 3}
	for i := range 3 {
		h.Keep(Put(&n, i+1))
	}
	h.Undo()
	h.Undo()
	h.Keep(Put(&n, 7))
	expect(t, "redo", h.Redo(), api.ErrEmpty)
	expect(t, "there is", n, 7)
	for _, want := range []int{1, 0} {
		expect(t, "undo", h.Undo(), api.OK)
		expect(t, "behind undo", n, want)
	}
	expect(t, "undo behind the last", h.Undo(), api.ErrEmpty)
}

// What can't be taken back or done again any more must not be kept, in spare room neither.
func TestNoMoreIsKept(t *testing.T) {
	n := 0
	count := func(backs []Back) (all int) {
		for _, back := range backs[:cap(backs)] {
			if back != nil {
				all++
			}
		}
		return all
	}
	for most := range api.MaxUndo + 1 {
		h := History{Most: most}
		for i := range 20 {
			h.Keep(Put(&n, i))
			expect(t, "kept", count(h.done), min(i+1, most))
		}
		for i := range most {
			h.Undo()
			expect(t, "kept behind undo", count(h.done), most-1-i)
			expect(t, "kept to be done again", count(h.undone), i+1)
		}
		h.Redo()
		expect(t, "kept behind redo", count(h.done), min(1, most))
		h.Keep(Put(&n, 99))
		expect(t, "kept to be done again behind an edit", count(h.undone), 0)
	}
}

func TestAnEditThatIsDroppedIsFreed(t *testing.T) {
	h := History{Most: 3}
	var places []weak.Pointer[[64]int]
	for range 10 {
		place := new([64]int)
		places = append(places, weak.Make(place))
		h.Keep(Put(place, [64]int{1}))
		runtime.GC()
		for i, place := range places {
			if kept := i >= len(places)-h.Most; kept != (place.Value() != nil) {
				t.Errorf("behind edit %d: edit %d is kept: %v, want %v", len(places)-1, i, !kept, kept)
			}
		}
	}
	runtime.KeepAlive(&h)
}
