package dict

import (
	"palio/api"
	"palio/hash"
)

// By how many times the keys a greater table is sized, and how many times as many slots as keys are not too many yet.
const (
	growTimes   = 2
	shrinkTimes = 8
)

func (d *Dict[V]) moving() bool { return d != nil && len(d.tables[1]) > 0 }

// newest is the table that new keys stand in.
func (d *Dict[V]) newest() table[V] {
	if d.moving() {
		return d.tables[1]
	}
	return d.tables[0]
}

// grow begins to move, if a further key asks for more slots; shrink, if a deleted one leaves too many.
func (d *Dict[V]) grow() {
	size := len(d.tables[0])
	if !d.moving() && d.count >= size && size < api.MostSize {
		d.begin(growTimes * d.count)
	}
}

func (d *Dict[V]) shrink() {
	size := len(d.tables[0])
	if !d.moving() && size > api.LeastSize && shrinkTimes*d.count < size {
		d.begin(d.count)
	}
}

func (d *Dict[V]) begin(keys int) {
	d.tables[1] = make(table[V], hash.SizeFor(keys))
}

// unmoved goes through the slots that were not moved yet, if the dict is moving, from its place on.
func (d *Dict[V]) unmoved(yield func(int) bool) {
	if !d.moving() {
		return
	}
	// The table is asked for its end ahead, as another one is the first when the last slot is moved.
	end := len(d.tables[0])
	for slot := d.place; slot < end && yield(slot); slot++ {
	}
}

// move moves the slot at the place.
func (d *Dict[V]) move(slot int) {
	d.tables[1].put(d.tables[0][slot]...)
	d.tables[0][slot] = nil
	d.place = slot + 1
	if d.place == len(d.tables[0]) {
		d.tables, d.place = [2]table[V]{d.tables[1]}, 0
	}
}
