package space

import (
	"errors"
	"strconv"

	"palio/api"
	"palio/lfu"
)

// fault is the number of what is wrong.
type fault api.Errno

func (f fault) Error() string { return "fault " + strconv.Itoa(int(f)) }

// number tells what is wrong, if anything is.
func number(err error) api.Errno {
	var f fault
	if errors.As(err, &f) {
		return api.Errno(f)
	}
	return api.OK
}

// named tells whether there may be such a key.
func named(key string) error {
	if len(key) > api.MaxKey {
		return fault(api.ErrKey)
	}
	return nil
}

// known is the thing of a key that must be there.
func (s *Space) known(key string) (*thing, error) {
	if s == nil {
		return nil, fault(api.ErrNil)
	}
	th, there := s.find(key)
	if !there {
		return nil, fault(api.ErrNoKey)
	}
	return th, nil
}

// made is a key's thing, which is a new one, of an empty set, if it is not there.
func (s *Space) made(key string, now int) (*thing, error) {
	if s == nil {
		return nil, fault(api.ErrNil)
	}
	if err := named(key); err != nil {
		return nil, err
	}
	if th, there := s.find(key); there {
		return th, nil
	}
	use, e := lfu.New(now)
	switch {
	case e != api.OK:
		return nil, fault(e)
	case s.Len() >= api.MaxKeys:
		return nil, fault(api.ErrFull)
	}
	th := &thing{Set: s.set(), use: use}
	s.keep(key, th)
	return th, nil
}
