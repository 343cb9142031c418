package glob

// fills tells whether a text's characters are what the parts say. It keeps all the places at which the characters so far may have come to, rather than trying runs' ends one after another: so many stars cost no more than few.
func fills(s string, list ...part) bool {
	places := make([]bool, len(list)+1)
	places[0] = true
	pass(places, list...)
reading:
	for _, r := range s {
		places = step(places, r, list...)
		for _, is := range places {
			if is {
				continue reading
			}
		}
		return false
	}
	return places[len(list)]
}

// step is where one character more leads to: a run holds its place, others are done with.
func step(places []bool, r rune, list ...part) []bool {
	next := make([]bool, len(places))
	for at, p := range list {
		if !places[at] || !p.takes(r) {
			continue
		}
		if _, ok := p.(run); ok {
			next[at] = true
		} else {
			next[at+1] = true
		}
	}
	pass(next, list...)
	return next
}

// pass adds the places behind runs, as a run may be no characters.
func pass(places []bool, list ...part) {
	for at, p := range list {
		if _, ok := p.(run); ok && places[at] {
			places[at+1] = true
		}
	}
}
