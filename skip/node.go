package skip

import "palio/api"

// link leads to the next node of a level, past others that are not of it; a level's last link leads to none, past all that are left. Links count what they pass, and not how far they lead, so that a list of noughts is an empty one.
type link struct {
	next   *node
	passed int
}

// node is an entry, the node ahead of it, and its links, of the lowest level first; above its level it has none.
type node struct {
	api.Entry
	ahead *node
	tower [api.MaxLevel]link
}

// tie makes the link back of the next node lead here.
func (n *node) tie() {
	if next := n.tower[0].next; next != nil {
		next.ahead = n
	}
}

// step is a node that is come to on a level, and its place. Levels are counted from 0 on, as a tower's links are.
type step struct {
	*node
	place int
	level int
}

func (s step) link() *link { return &s.tower[s.level] }

// leads tells whether the step's link leads to an entry.
func (s step) leads(e api.Entry) bool {
	next := s.link().next
	return next != nil && next.Entry == e
}

// forth goes through the nodes of the step's level that stand behind it.
func (s step) forth(yield func(step) bool) {
	for {
		over := *s.link()
		if over.next == nil {
			return
		}
		s = step{over.next, s.place + over.passed + 1, s.level}
		if !yield(s) {
			return
		}
	}
}

// back goes from the step's own node to the first one, by the links back.
func (s step) back(yield func(step) bool) {
	for s.place >= 0 && yield(s) {
		s = step{s.ahead, s.place - 1, s.level}
	}
}
