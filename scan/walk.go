package scan

import (
	"iter"

	"palio/api"
	"palio/dict"
	"palio/hash"
)

// table is one of a dict's tables: its number there, and its size; one that is not there has none.
type table struct {
	number int
	size   int
}

// ordered tells the lesser and the greater one of the tables of sizes, of equal ones the first one as the lesser. If there is but one, it is both.
func ordered(sizes ...int) (table, table) {
	var small, great table
	for number, size := range sizes {
		if size == 0 {
			continue
		}
		if small.size == 0 || size < small.size {
			small = table{number, size}
		}
		if size >= great.size {
			great = table{number, size}
		}
	}
	return small, great
}

// digits are those that tell the table's slots from each other.
func (t table) digits() uint32 { return uint32(t.size - 1) }

// slots goes through the table's slots, from a cursor's one on, each with the next cursor, until that is 0.
func (t table) slots(cursor uint32) iter.Seq2[int, uint32] {
	return func(yield func(int, uint32) bool) {
		for at, more := cursor, true; more; {
			slot, _ := hash.Slot(at, t.size)
			next, e := Next(at, t.size)
			more = e == api.OK && yield(slot, next) && next != 0
			at = next
		}
	}
}

// stretch tells the keys of a table's slots, from a cursor's one on, until the next cursor has none of some digits; and that cursor.
func stretch[V any](d *dict.Dict[V], t table, cursor uint32, digits uint32) ([]string, uint32) {
	var told []string
	var last uint32
going:
	for slot, next := range t.slots(cursor) {
		// The slot is one of the table, so Bucket has no error to tell.
		keys, _ := d.Bucket(t.number, slot)
		told, last = append(told, keys...), next
		if next&digits == 0 {
			break going
		}
	}
	return told, last
}
