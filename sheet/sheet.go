// Package sheet keeps fields: their rules, what they are worth, and an order in which they can be worked out.
package sheet

import (
	"slices"
	"strings"

	"fields/api"
	"fields/history"
	"fields/rules"
)

type field struct {
	name  string
	rule  rules.Rule
	worth rules.Value
}

// Sheet is some fields, without a circle among them. Its zero value has none.
type Sheet struct {
	// Each field stands behind all that it mentions. A slice that stood here is never written into
	// again, so that it can be put back.
	order []*field
}

// Value tells what a field is worth; or ErrName.
func (s *Sheet) Value(name string) (rules.Value, api.Errno) {
	f := s.find(name)
	if f == nil {
		return rules.Value{}, api.ErrName
	}
	return f.worth, api.OK
}

// Rule tells a field's rule in its plain form; or ErrName.
func (s *Sheet) Rule(name string) (string, api.Errno) {
	f := s.find(name)
	if f == nil {
		return "", api.ErrName
	}
	return f.rule.Plain(), api.OK
}

// List tells all rules, a line each, sorted by the names of the fields.
func (s *Sheet) List() string {
	sorted := slices.SortedFunc(slices.Values(s.order), func(a, b *field) int {
		return strings.Compare(a.name, b.name)
	})
	var text strings.Builder
	for _, f := range sorted {
		text.WriteString(f.name + " = " + f.rule.Plain() + "\n")
	}
	return text.String()
}

// Order tells all fields, each behind all that it mentions.
func (s *Sheet) Order() []string { return names(s.order) }

func (s *Sheet) find(name string) *field {
	for _, f := range s.order {
		if f.name == name {
			return f
		}
	}
	return nil
}

// hanging tells the fields that mention a name, and all that mention these, and so on, in their order.
func (s *Sheet) hanging(name string) []*field {
	var found []*field
	on := []string{name}
	for _, f := range s.order {
		if slices.ContainsFunc(on, f.rule.Mentions) {
			found = append(found, f)
			on = append(on, f.name)
		}
	}
	return found
}

// workOut works out fields anew: each must stand behind all of them that it mentions. What they were worth
// is kept, so that nothing need be worked out to take this back.
func (s *Sheet) workOut(fields []*field) history.Back {
	var backs []history.Back
	for _, f := range fields {
		backs = append(backs, history.Put(&f.worth, f.rule.Worth(s.worth)))
	}
	return history.All(backs...)
}

func (s *Sheet) worth(name string) rules.Value {
	if f := s.find(name); f != nil {
		return f.worth
	}
	return rules.Value{Kind: api.Error, N: api.Name}
}

func names(fields []*field) []string {
	told := make([]string, len(fields))
	for i, f := range fields {
		told[i] = f.name
	}
	return told
}
