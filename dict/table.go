package dict

import (
	"iter"
	"slices"

	"palio/api"
	"palio/hash"
)

// name is what nodes are told from each other by. The hash is kept beside the key, as no move changes it, and as it tells most keys apart at once.
type name struct {
	sum uint32
	key string
}

// node is a key and its thing.
type node[V any] struct {
	name
	thing V
}

// table is a list of slots; one that is not there has none.
type table[V any] [][]node[V]

// put gives nodes their slots. The table is there, so its size is a right one, and Slot has no error to tell.
func (t table[V]) put(nodes ...node[V]) {
	for _, n := range nodes {
		at, _ := hash.Slot(n.sum, len(t))
		t[at] = append(t[at], n)
	}
}

// keys are those of nodes, in the order of their bytes.
func keys[V any](nodes ...node[V]) []string {
	var list []string
	for _, n := range nodes {
		list = append(list, n.key)
	}
	slices.Sort(list)
	return list
}

func (d *Dict[V]) named(key string) name {
	return name{hash.Sum(d.seed, key), key}
}

// slots goes through a hash's slots, one in each table that is there.
func (d *Dict[V]) slots(sum uint32) iter.Seq[*[]node[V]] {
	return func(yield func(*[]node[V]) bool) {
		for _, t := range d.tables {
			if at, e := hash.Slot(sum, len(t)); e == api.OK && !yield(&t[at]) {
				return
			}
		}
	}
}

// find does something with a key's node, if it is there, and tells whether it is. Setting, getting and deleting all begin by it, so the slot that each of them moves first is moved here.
func (d *Dict[V]) find(key string, do func(slot *[]node[V], at int)) bool {
	d.Step(1)
	wanted, found := d.named(key), false
looking:
	for slot := range d.slots(wanted.sum) {
		for at := range *slot {
			if (*slot)[at].name == wanted {
				do(slot, at)
				found = true
				break looking
			}
		}
	}
	return found
}
