package zset

import (
	"iter"
	"slices"
	"sort"

	"palio/api"
	"palio/pack"
)

// form is what a set's entries stand in, in their order.
type form interface {
	Len() int
	At(place int) (api.Entry, bool)
	Range(from int, to int) []api.Entry
	Cut(from int, to int) int
	// Delete takes an entry out whose member is put in again at once, so that a list's dict needn't forget it.
	Delete(e api.Entry) bool
	// put puts entries in; none of their members has one.
	put(level int, entries ...api.Entry)
	score(member string) (int64, bool)
	rank(member string) (int, bool)
	bytes() int
	scan(cursor uint32) ([]api.Entry, uint32)
}

// now is the form that a set's entries stand in; a nil one has none, so for it an empty pack does.
func (s *Set) now() form {
	if s == nil {
		return &packed{pack.New()}
	}
	return s.form
}

// small is the pack that a set's entries stand in, if they don't stand in a list.
func (s *Set) small() (*packed, bool) {
	p, ok := s.form.(*packed)
	return p, ok
}

// fit makes a list of a pack that a new member is too much for.
func (s *Set) fit(member string) {
	p, ok := s.small()
	if ok && (p.Len() >= s.limits.Entries || len(member) > s.limits.Member) {
		s.form = newList(s.seed, p.entries()...)
	}
}

// full tells whether there is no room for a member.
func (s *Set) full(member string) bool {
	if s.form.Len() < api.MaxSet {
		return false
	}
	_, there := find(s.form, member)
	return !there
}

// through goes through a form's entries, in order.
func through(f form) iter.Seq[api.Entry] {
	return slices.Values(f.Range(0, f.Len()))
}

// find is a member's entry, found by going through all of them: what may change nothing can't ask a list's dict, as that moves a slot when it is asked.
func find(f form, member string) (api.Entry, bool) {
	var found api.Entry
	there := false
finding:
	for e := range through(f) {
		if e.Member == member {
			found, there = e, true
			break finding
		}
	}
	return found, there
}

// lead is how many entries, from the first one on, are what a search asks for, as none is behind one that is not.
func lead(f form, ask func(e api.Entry) bool) int {
	return sort.Search(f.Len(), func(place int) bool {
		e, _ := f.At(place)
		return !ask(e)
	})
}
