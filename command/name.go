package command

import "palio/api"

// behind is how many arguments can stand behind a name.
const behind = api.MaxArgs - 1

// step reads some of the words behind a name.
type step func(r *reader) error

// ask is what a name asks for: how many arguments behind it, and which, step by step.
type ask struct {
	least  int
	most   int
	writes bool
	steps  []step
}

func reads(least int, most int, steps ...step) ask { return ask{least, most, false, steps} }

func writes(least int, most int, steps ...step) ask { return ask{least, most, true, steps} }

// asks are what all names ask for.
func asks() map[string]ask {
	return map[string]ask{
		"PING":     reads(0, 1, (*reader).keys),
		"DEL":      writes(1, behind, (*reader).keys),
		"EXISTS":   reads(1, behind, (*reader).keys),
		"TYPE":     reads(1, 1, (*reader).key),
		"RENAME":   writes(2, 2, (*reader).keys),
		"DBSIZE":   reads(0, 0),
		"FLUSHALL": writes(0, 0),
		"SCAN":     reads(1, 3, (*reader).cursor, (*reader).pattern),
		"OBJECT":   reads(2, 2, (*reader).encoding, (*reader).key),

		"ZADD":     writes(3, behind, (*reader).key, (*reader).flags, (*reader).pairs),
		"ZINCRBY":  writes(3, 3, (*reader).key, (*reader).incr, (*reader).pairs),
		"ZREM":     writes(2, behind, (*reader).key, (*reader).members),
		"ZSCORE":   reads(2, 2, (*reader).key, (*reader).members),
		"ZRANK":    reads(2, 2, (*reader).key, (*reader).members),
		"ZREVRANK": reads(2, 2, (*reader).turn, (*reader).key, (*reader).members),
		"ZCARD":    reads(1, 1, (*reader).key),

		"ZRANGE":           reads(3, 4, (*reader).key, (*reader).numbers, (*reader).scores),
		"ZREVRANGE":        reads(3, 4, (*reader).turn, (*reader).key, (*reader).numbers, (*reader).scores),
		"ZRANGEBYSCORE":    reads(3, 4, (*reader).key, (*reader).bounds, (*reader).scores),
		"ZCOUNT":           reads(3, 3, (*reader).key, (*reader).bounds),
		"ZRANGEBYLEX":      reads(3, 3, (*reader).key, (*reader).edges),
		"ZREMRANGEBYRANK":  writes(3, 3, (*reader).key, (*reader).numbers),
		"ZREMRANGEBYSCORE": writes(3, 3, (*reader).key, (*reader).bounds),
		"ZPOPMIN":          writes(1, 2, (*reader).key, (*reader).amount),
		"ZPOPMAX":          writes(1, 2, (*reader).turn, (*reader).key, (*reader).amount),

		"ZUNIONSTORE": writes(3, behind, (*reader).key, (*reader).sets, (*reader).mix),
		"ZINTERSTORE": writes(3, behind, (*reader).key, (*reader).sets, (*reader).mix),
		"ZDIFFSTORE":  writes(3, behind, (*reader).key, (*reader).sets),
		"ZSCAN":       reads(2, 4, (*reader).key, (*reader).cursor, (*reader).pattern),
	}
}

// capitals is a word in capitals; of a word that has anything but letters it is empty, as no name, nor any word that may stand behind one, has anything else.
func capitals(word string) string {
	var letters []byte
spelling:
	for _, r := range word {
		switch {
		case r >= 'a' && r <= 'z':
			r += 'A' - 'a'
			fallthrough
		case r >= 'A' && r <= 'Z':
			letters = append(letters, byte(r))
		default:
			letters = nil
			break spelling
		}
	}
	return string(letters)
}
