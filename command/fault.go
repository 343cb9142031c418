package command

import (
	"errors"

	"palio/api"
)

// fault is the number of what is wrong.
type fault api.Errno

func (f fault) Error() string { return Text(api.Errno(f)) }

// number tells what is wrong, if anything is.
func number(err error) api.Errno {
	var f fault
	if errors.As(err, &f) {
		return api.Errno(f)
	}
	return api.OK
}
