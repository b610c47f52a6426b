package history

import (
	"slices"

	"fields/api"
)

// History keeps edits: the last ones that were done, and those that were taken back since.
type History struct {
	Most   int // of the edits that are kept
	done   []Back
	undone []Back
}

// Keep keeps an edit that was done anew. What was taken back till then is dropped: it could be done again
// only where it was done.
func (h *History) Keep(edit Back) {
	h.undone = nil
	h.done = append(h.done, edit)
	if len(h.done) > h.Most {
		h.done = slices.Delete(h.done, 0, 1)
	}
}

// Undo takes the last edit back; or it tells ErrEmpty.
func (h *History) Undo() api.Errno { return turn(&h.done, &h.undone) }

// Redo does again the last edit that was taken back, and keeps it again; or it tells ErrEmpty.
func (h *History) Redo() api.Errno { return turn(&h.undone, &h.done) }

// turn takes back the last of one list. What takes this back in turn is the last of the other from now on.
func turn(from, to *[]Back) api.Errno {
	last := len(*from) - 1
	if last < 0 {
		return api.ErrEmpty
	}
	*to = append(*to, (*from)[last]())
	*from = slices.Delete(*from, last, last+1) // not cut off: the spare room would go on keeping it
	return api.OK
}
