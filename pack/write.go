package pack

import "palio/api"

// fit tells whether entries may be in a pack.
func fit(l ...api.Entry) bool {
	for _, e := range l {
		if len(e.Member) > api.MaxMember {
			return false
		}
	}
	return true
}

// written are the bytes of entries.
func written(l ...api.Entry) []byte {
	var b []byte
	for _, e := range l {
		from := len(b)
		b = append(b, byte(len(e.Member)))
		b = append(b, e.Member...)
		for at := range scoreSize {
			b = append(b, byte(e.Score>>(8*(scoreSize-1-at))))
		}
		b = append(b, byte(len(b)-from))
	}
	return b
}

// replaced is a pack with other bytes in place of some, and so many entries more. What is ahead of them has no room to spare, so that the others go elsewhere than over what is behind.
func replaced(p string, more int, from int, to int, bytes ...byte) string {
	b := []byte(p)
	n := count(p) + more
	copy(b, []byte{byte(n >> 8), byte(n)})
	ahead, behind := b[:from:from], b[to:]
	return string(append(append(ahead, bytes...), behind...))
}
