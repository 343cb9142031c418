package skip

import (
	"strings"

	"palio/api"
	"palio/bound"
)

// way is what a search comes to: of each level the last node ahead of what is sought.
type way [api.MaxLevel]step

// start is where a level is gone through from: the head.
func (l *List) start(level int) step { return step{&l.head, -1, level} }

// down goes down the levels, on each one as far as nodes are ahead of what is sought.
func (l *List) down(ahead func(s step) bool) way {
	var w way
	at := l.start(api.MaxLevel)
	for at.level > 0 {
		at.level--
	going:
		for s := range at.forth {
			if !ahead(s) {
				break going
			}
			at = s
		}
		w[at.level] = at
	}
	return w
}

// toEntry is the way to an entry, toPlace the way to a place.
func (l *List) toEntry(e api.Entry) way {
	return l.down(func(s step) bool { return bound.Less(s.Entry, e) })
}

func (l *List) toPlace(place int) way {
	return l.down(func(s step) bool { return s.place < place })
}

// part are the ends of a range, drawn in to where there are entries.
func (l *List) part(from int, to int) (int, int) {
	return max(from, 0), min(to, l.Len())
}

// relink lays the links of levels anew, each as a closure says.
func relink(change func(s step) link, levels ...step) {
	for _, s := range levels {
		*s.link() = change(s)
	}
}

// join puts an entry in where the way leads to. Its member is copied, so that no longer text that it was cut out of is kept with it.
func (w way) join(e api.Entry, level int) {
	e.Member = strings.Clone(e.Member)
	n := &node{Entry: e}
	split := func(s step) link {
		old, passed := *s.link(), w[0].place-s.place
		n.tower[s.level] = link{old.next, old.passed - passed}
		return link{n, passed}
	}
	pass := func(s step) link {
		old := *s.link()
		return link{old.next, old.passed + 1}
	}
	relink(split, w[:level]...)
	relink(pass, w[level:]...)
	n.tie()
	w[0].tie()
}

// leave leaves so many nodes out: those from where the way leads to up to where another one does.
func (w way) leave(far way, nodes int) {
	over := func(s step) link {
		last := far[s.level]
		old := *last.link()
		return link{old.next, last.place - s.place + old.passed - nodes}
	}
	relink(over, w[:]...)
	w[0].tie()
}
