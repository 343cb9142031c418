package bound

import "palio/api"

// opened is the mark that a text begins with, 0 if it begins with none, and what is behind it.
func opened(s string) (rune, string) {
	mark, rest := rune(0), ""
reading:
	for at, r := range s {
		switch {
		case at == 0 && (r == '(' || r == '['):
			mark = r
		default:
			// A second mark is no mark: members may begin with one.
			rest = s[at:]
			break reading
		}
	}
	return mark, rest
}

// signed is how an end beyond all is written. It is held against the two that are right as a whole, as what else it says could not be written.
func signed[E comparable](end E, below E, above E, word string) (string, api.Errno) {
	switch end {
	case below:
		return "-" + word, api.OK
	case above:
		return "+" + word, api.OK
	}
	return "", api.ErrBound
}
