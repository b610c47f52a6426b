package history

import (
	"slices"

	"fields/api"
)

// History keeps edits: the last ones that were done, those that were taken back since, and those of a
// group while it is open.
type History struct {
	Most   int // of the edits that are kept to be taken back
	done   []Back
	undone []Back
	open   bool
	group  []Back
}

// Add keeps an edit that was done anew, alone or as one of the open group.
func (h *History) Add(edit Back) {
	if h.open {
		h.group = append(h.group, edit)
		return
	}
	h.keep(edit)
}

// keep drops what was taken back till then: it could be done again only where it was done.
func (h *History) keep(edit Back) {
	h.undone = nil
	h.done = append(h.done, edit)
	if len(h.done) > h.Most {
		h.done = slices.Delete(h.done, 0, 1)
	}
}

// Begin opens a group; or it tells ErrOpen.
func (h *History) Begin() api.Errno {
	if h.open {
		return api.ErrOpen
	}
	h.open = true
	return api.OK
}

// Commit closes the group, and keeps it as one edit; or it tells ErrClosed.
func (h *History) Commit() api.Errno {
	group, errno := h.end()
	if errno == api.OK {
		h.keep(All(group...))
	}
	return errno
}

// Cancel closes the group, and takes back all that was done in it; or it tells ErrClosed. What was taken
// back ahead of the group can still be done again, for all is as it was then.
func (h *History) Cancel() api.Errno {
	group, errno := h.end()
	All(group...)()
	return errno
}

func (h *History) end() ([]Back, api.Errno) {
	if !h.open {
		return nil, api.ErrClosed
	}
	group := h.group
	h.open, h.group = false, nil
	return group, api.OK
}

// Undo takes the last edit back; or it tells ErrOpen or ErrEmpty.
func (h *History) Undo() api.Errno { return h.turn(&h.done, &h.undone) }

// Redo does again the last edit that was taken back, and keeps it again; or it tells ErrOpen or ErrEmpty.
func (h *History) Redo() api.Errno { return h.turn(&h.undone, &h.done) }

// turn takes back the last of one list. What takes this back in turn is the last of the other from now on.
func (h *History) turn(from, to *[]Back) api.Errno {
	last := len(*from) - 1
	switch {
	case h.open:
		return api.ErrOpen
	case last < 0:
		return api.ErrEmpty
	}
	*to = append(*to, (*from)[last]())
	*from = slices.Delete(*from, last, last+1) // not cut off: the spare room would go on keeping it
	return api.OK
}
