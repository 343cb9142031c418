package zset

import (
	"palio/api"
	"palio/bound"
	"palio/pack"
)

// packed is a set's entries as a pack. It is one, and all that is put into it fits in, so that pack's errors tell no more than that a place or a member is not there.
type packed struct{ text string }

func (p *packed) entries() []api.Entry {
	l, _ := pack.Entries(p.text)
	return l
}

func (p *packed) Len() int { return len(p.entries()) }

func (p *packed) At(place int) (api.Entry, bool) {
	e, err := pack.Get(p.text, place)
	return e, err == api.OK
}

func (p *packed) Range(from int, to int) []api.Entry {
	l := p.entries()
	from, to = max(from, 0), min(to, len(l))
	if from >= to {
		return nil
	}
	return l[from:to]
}

func (p *packed) Cut(from int, to int) int {
	l := p.Range(from, to)
	for _, e := range l {
		p.Delete(e)
	}
	return len(l)
}

func (p *packed) Delete(e api.Entry) bool {
	text, err := pack.Delete(p.text, pack.Find(p.text, e.Member))
	if err != api.OK {
		return false
	}
	p.text = text
	return true
}

// put needs no level: a pack has none.
func (p *packed) put(_ int, entries ...api.Entry) {
	for _, e := range entries {
		place := lead(p, func(other api.Entry) bool { return bound.Less(other, e) })
		p.text, _ = pack.Insert(p.text, place, e)
	}
}

func (p *packed) score(member string) (int64, bool) {
	e, there := p.At(pack.Find(p.text, member))
	return e.Score, there
}

func (p *packed) rank(member string) (int, bool) {
	place := pack.Find(p.text, member)
	return max(place, 0), place >= 0
}

func (p *packed) bytes() int { return len(p.text) }

func (p *packed) scan(uint32) ([]api.Entry, uint32) { return p.entries(), 0 }
