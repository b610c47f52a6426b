package sheet

import (
	"slices"

	"fields/api"
	"fields/history"
	"fields/rules"
)

// Set gives a field a rule. It tells the fields that hang on it, and the function that takes the edit
// back; or ErrLimit, or ErrCycle and a circle.
func (s *Sheet) Set(name string, rule rules.Rule) ([]string, history.Back, api.Errno) {
	if f := s.find(name); f != nil {
		return s.settle(f, history.Put(&f.rule, rule))
	}
	if len(s.order) == api.MaxFields {
		return nil, nil, api.ErrLimit
	}
	f := &field{name: name, rule: rule}
	return s.settle(f, history.Put(&s.order, slices.Concat(s.order, []*field{f})))
}

// Delete drops a field. It tells the fields that hang on it, and the function that takes the edit back;
// or ErrName.
func (s *Sheet) Delete(name string) ([]string, history.Back, api.Errno) {
	f := s.find(name)
	if f == nil {
		return nil, nil, api.ErrName
	}
	at := slices.Index(s.order, f)
	back := history.Put(&s.order, slices.Concat(s.order[:at], s.order[at+1:]))
	hanging := s.hanging(name)
	return names(hanging), history.All(back, s.workOut(hanging)), api.OK
}

// Rename gives a field another name, in all rules too. It tells the fields that hang on it, and the
// function that takes the edit back; or ErrName, ErrTwice or ErrLimit, or ErrCycle and a circle.
func (s *Sheet) Rename(name, to string) ([]string, history.Back, api.Errno) {
	f := s.find(name)
	if f == nil {
		return nil, nil, api.ErrName
	}
	if s.find(to) != nil {
		return nil, nil, api.ErrTwice
	}
	back, errno := s.changeName(f, to)
	if errno != api.OK {
		return nil, nil, errno
	}
	return s.settle(f, back)
}

// changeName keeps the rules that there were: to change the name again would not bring them back, for
// some may have mentioned the new name already.
func (s *Sheet) changeName(f *field, to string) (history.Back, api.Errno) {
	was := f.name
	back := history.Put(&f.name, to)
	for _, g := range s.order {
		if !g.rule.Mentions(was) {
			continue
		}
		rule, errno := g.rule.Renamed(was, to)
		if errno != api.OK {
			back()
			return nil, errno
		}
		back = history.All(back, history.Put(&g.rule, rule))
	}
	return back, api.OK
}

// settle ends an edit of a field. If there would be a circle, the edit is taken back.
func (s *Sheet) settle(f *field, back history.Back) ([]string, history.Back, api.Errno) {
	order, circle := mended(s.order, f)
	if circle != nil {
		told := names(circle) // by the names that there would be
		back()
		return told, nil, api.ErrCycle
	}
	back = history.All(back, history.Put(&s.order, order))
	hanging := append([]*field{f}, s.hanging(f.name)...)
	return names(hanging), history.All(back, s.workOut(hanging)), api.OK
}
