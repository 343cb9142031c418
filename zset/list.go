package zset

import (
	"palio/api"
	"palio/dict"
	"palio/scan"
	"palio/skip"
)

// memberTimes is how often a list has each member: with its entry, and as a key.
const memberTimes = 2

// list is a set's entries as a list by levels, and a dict of their members and scores.
type list struct {
	*skip.List
	scores *dict.Dict[int64]
}

// newList has entries of the level 1.
func newList(seed uint32, entries ...api.Entry) *list {
	l := &list{skip.New(), dict.New[int64](seed)}
	l.put(1, entries...)
	return l
}

// put gives a member that is still in the dict its new score there.
func (l *list) put(level int, entries ...api.Entry) {
	for _, e := range entries {
		l.Insert(e, level)
		l.scores.Set(e.Member, e.Score)
	}
}

// Cut cuts entries out of the list, and their members out of the dict.
func (l *list) Cut(from int, to int) int {
	for _, e := range l.Range(from, to) {
		l.scores.Delete(e.Member)
	}
	return l.List.Cut(from, to)
}

func (l *list) score(member string) (int64, bool) { return l.scores.Get(member) }

func (l *list) rank(member string) (int, bool) {
	score, there := l.score(member)
	if !there {
		return 0, false
	}
	return l.Seek(api.Entry{Member: member, Score: score})
}

func (l *list) bytes() int {
	size := 0
	for e := range through(l) {
		size += api.EntrySize + memberTimes*len(e.Member)
	}
	return size
}

func (l *list) scan(cursor uint32) ([]api.Entry, uint32) {
	keys, next := scan.Scan(l.scores, cursor)
	var told []api.Entry
	for _, key := range keys {
		if e, there := find(l, key); there {
			told = append(told, e)
		}
	}
	return told, next
}
