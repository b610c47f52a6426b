package sheet

import "slices"

// mended tells an order that is right, made of one in which all is right but for the places of those that
// mention a field, and of those that it mentions; or it tells a circle that this field is in.
func mended(order []*field, f *field) (right, circle []*field) {
	return behindLast(aheadOfFirst(order, f), f)
}

// aheadOfFirst puts a field ahead of the first that mentions it.
func aheadOfFirst(order []*field, f *field) []*field {
	at := slices.Index(order, f)
	first := slices.IndexFunc(order[:at], func(g *field) bool { return g.rule.Mentions(f.name) })
	if first < 0 {
		return order
	}
	return slices.Concat(order[:first], order[at:at+1], order[first:at], order[at+1:])
}

// behindLast puts a field, and with it what hangs on it, behind the last that it mentions. What hangs on
// it stands nowhere ahead of it, and what it mentions nowhere behind the last: so what must be moved, and
// a circle if there is one, stand between the two places.
func behindLast(order []*field, f *field) (right, circle []*field) {
	from, last := slices.Index(order, f), lastMentioned(order, f)
	if last < from {
		return order, nil
	}
	var stay, move []*field
	var links []*link
	for _, g := range order[from : last+1] {
		l := linked(g, f, links)
		switch {
		case l == nil:
			stay = append(stay, g)
		case f.rule.Mentions(g.name):
			return nil, l.fields()
		default:
			move = append(move, g)
			links = append(links, l)
		}
	}
	return slices.Concat(order[:from], stay, move, order[last+1:]), nil
}

// lastMentioned tells the last place of a field that f mentions, -1 if there is none.
func lastMentioned(order []*field, f *field) int {
	for at := len(order) - 1; at >= 0; at-- {
		if f.rule.Mentions(order[at].name) {
			return at
		}
	}
	return -1
}

// A link is a field, and the link of one that it mentions, and so on to a field of which no next is told.
type link struct {
	field *field
	next  *link
}

// linked tells a link from g to f by those that there are, or nil.
func linked(g, f *field, links []*link) *link {
	if g == f {
		return &link{field: f}
	}
	for _, next := range links {
		if g.rule.Mentions(next.field.name) {
			return &link{g, next}
		}
	}
	return nil
}

func (l *link) fields() []*field {
	var fields []*field
	for ; l != nil; l = l.next {
		fields = append(fields, l.field)
	}
	return fields
}
