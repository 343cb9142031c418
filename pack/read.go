package pack

import (
	"iter"
	"strings"

	"palio/api"
)

// first is where the first entry's bytes begin, behind the bytes that count the entries.
const first = 2

const scoreSize = 8

// cut is an entry, and where in a text its bytes begin and end.
type cut struct {
	api.Entry
	from, to int
}

// entry has a member of its own, so that whoever keeps it doesn't keep the whole text with it.
func (c cut) entry() api.Entry {
	c.Member = strings.Clone(c.Member)
	return c.Entry
}

// count is how many entries a text says to have, or -1, if it says none, or more than a pack may have.
func count(p string) int {
	if len(p) < first {
		return -1
	}
	n := int(p[0])<<8 | int(p[1])
	if n > api.MaxPack {
		return -1
	}
	return n
}

// begun is the entry whose bytes begin at a place, by what these say first; it is empty, if no entry's do.
func begun(p string, from int) cut {
	if from < first || from >= len(p) {
		return cut{}
	}
	size := int(p[from])
	end := from + 1 + size
	to := end + scoreSize + 1
	if size > api.MaxMember || to > len(p) {
		return cut{}
	}
	return cut{api.Entry{Member: p[from+1 : end], Score: score(p[end : end+scoreSize])}, from, to}
}

// ended is the entry whose bytes end at a place, by what these say last. Where the count ends none does, as any byte there leads to ahead of the first entry.
func ended(p string, to int) cut {
	return begun(p, to-1-int(p[to-1]))
}

func score(bytes string) int64 {
	var n int64
	for at := range len(bytes) {
		n = n<<8 | int64(bytes[at])
	}
	return n
}

// forth goes from the first entry on, whether backs are right or not; back goes from the last one on, by the backs alone.
func forth(p string) iter.Seq2[int, cut] {
	return walk(begun(p, first), func(c cut) cut { return begun(p, c.to) })
}

func back(p string) iter.Seq2[int, cut] {
	return walk(ended(p, len(p)), func(c cut) cut { return ended(p, c.from) })
}

// walk counts its steps from 0 on, as long as there is an entry to step to.
func walk(from cut, next func(cut) cut) iter.Seq2[int, cut] {
	return func(yield func(int, cut) bool) {
		at := 0
		for c := from; c != (cut{}) && yield(at, c); c = next(c) {
			at++
		}
	}
}

func entries(cuts iter.Seq2[int, cut]) []api.Entry {
	var list []api.Entry
	for _, c := range cuts {
		list = append(list, c.entry())
	}
	return list
}

// pick is the entry at a place, if there is one.
func pick(p string, at int) (cut, api.Errno) {
	switch {
	case !Right(p):
		return cut{}, api.ErrPack
	case at < 0 || at >= count(p):
		return cut{}, api.ErrArg
	}
	return nth(p, at), api.OK
}

// nth is the entry at a place of a pack; behind the last one it is no bytes, at the end.
func nth(p string, place int) cut {
	for at, c := range forth(p) {
		if at == place {
			return c
		}
	}
	return cut{from: len(p), to: len(p)}
}
