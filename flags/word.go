package flags

import (
	"iter"

	"palio/api"
)

// flag is one of the flags: its word, and what sets it beside others.
type flag struct {
	word string
	set  func(f api.Add) api.Add
}

// all are the flags, in the order in which they are written.
func all() [6]flag {
	return [6]flag{
		{"NX", func(f api.Add) api.Add { f.NX = true; return f }},
		{"XX", func(f api.Add) api.Add { f.XX = true; return f }},
		{"GT", func(f api.Add) api.Add { f.GT = true; return f }},
		{"LT", func(f api.Add) api.Add { f.LT = true; return f }},
		{"CH", func(f api.Add) api.Add { f.CH = true; return f }},
		{"INCR", func(f api.Add) api.Add { f.Incr = true; return f }},
	}
}

// in tells whether a flag is set: then it changes nothing to set it once more.
func (x flag) in(f api.Add) bool { return x.set(f) == f }

// named goes through the flags of words, up to the first word that is none's.
func named(words ...string) iter.Seq[flag] {
	return func(yield func(flag) bool) {
		for _, word := range words {
			x, is := find(word)
			if !is || !yield(x) {
				return
			}
		}
	}
}

// find is the flag whose word it is, in whatever case of letters.
func find(word string) (flag, bool) {
seeking:
	for _, x := range all() {
		if len(word) != len(x.word) {
			continue seeking
		}
		for at, r := range word {
			if capital(r) != rune(x.word[at]) {
				continue seeking
			}
		}
		return x, true
	}
	return flag{}, false
}

// capital leaves all but the letters of ASCII as they are: some letters outside of it have capitals within, as the dotless i has.
func capital(r rune) rune {
	if r >= 'a' && r <= 'z' {
		return r - 'a' + 'A'
	}
	return r
}
