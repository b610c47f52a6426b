package sheet

import (
	"slices"

	"fields/api"
	"fields/rules"
)

// Set gives a field a rule, and tells the fields that hang on it; or it tells ErrLimit, or ErrCycle
// and a circle.
func (s *Sheet) Set(name string, rule rules.Rule) ([]string, api.Errno) {
	if f := s.find(name); f != nil {
		return s.settle(f, f.change(rule))
	}
	if len(s.order) == api.MaxFields {
		return nil, api.ErrLimit
	}
	f := &field{name: name, rule: rule}
	return s.settle(f, s.add(f))
}

// Delete drops a field, and tells the fields that hang on it; or ErrName.
func (s *Sheet) Delete(name string) ([]string, api.Errno) {
	f := s.find(name)
	if f == nil {
		return nil, api.ErrName
	}
	at := slices.Index(s.order, f)
	s.order = slices.Concat(s.order[:at], s.order[at+1:])
	hanging := s.hanging(name)
	s.workOut(hanging)
	return names(hanging), api.OK
}

// Rename gives a field another name, in all rules too, and tells the fields that hang on it; or it tells
// ErrName, ErrTwice or ErrLimit, or ErrCycle and a circle.
func (s *Sheet) Rename(name, to string) ([]string, api.Errno) {
	f := s.find(name)
	if f == nil {
		return nil, api.ErrName
	}
	if s.find(to) != nil {
		return nil, api.ErrTwice
	}
	renamed, errno := s.renamed(name, to)
	if errno != api.OK {
		return nil, errno
	}
	return s.settle(f, s.changeName(f, to, renamed))
}

// settle ends an edit of a field. If there would be a circle, the edit is taken back.
func (s *Sheet) settle(f *field, back func()) ([]string, api.Errno) {
	order, circle := mended(s.order, f)
	if circle != nil {
		told := names(circle) // by the names that there would be
		back()
		return told, api.ErrCycle
	}
	s.order = order
	hanging := append([]*field{f}, s.hanging(f.name)...)
	s.workOut(hanging)
	return names(hanging), api.OK
}

func (s *Sheet) add(f *field) (back func()) {
	was := s.order
	s.order = slices.Concat(was, []*field{f})
	return func() { s.order = was }
}

func (f *field) change(rule rules.Rule) (back func()) {
	was := f.rule
	f.rule = rule
	return func() { f.rule = was }
}

// renamed tells the rules of all fields, in their order, with one name in the place of another.
func (s *Sheet) renamed(name, to string) ([]rules.Rule, api.Errno) {
	var renamed []rules.Rule
	for _, f := range s.order {
		rule, errno := f.rule.Renamed(name, to)
		if errno != api.OK {
			return nil, errno
		}
		renamed = append(renamed, rule)
	}
	return renamed, api.OK
}

func (s *Sheet) changeName(f *field, name string, renamed []rules.Rule) (back func()) {
	was := f.name
	f.name = name
	backs := []func(){func() { f.name = was }}
	for i, g := range s.order {
		backs = append(backs, g.change(renamed[i]))
	}
	return func() {
		for _, back := range backs {
			back()
		}
	}
}
