package sync

import (
	"slices"

	"stockade/api"
	"stockade/value"
)

// queue is a channel, and the values that it holds, the first one first.
type queue struct {
	api.Chan
	values []api.Value
}

// put is false, if there is no room.
func (q *queue) put(v api.Value) bool {
	if len(q.values) >= q.Room {
		return false
	}
	q.values = append(q.values, v)
	return true
}

// take is false, if there is no value.
func (q *queue) take() (api.Value, bool) {
	if len(q.values) == 0 {
		return api.Value{}, false
	}
	v := q.values[0]
	// The others move up: cut off at the front, the list would need new memory again and again.
	q.values = slices.Delete(q.values, 0, 1)
	return v, true
}

func (q *queue) clone() queue {
	return queue{Chan: q.Chan, values: slices.Clone(q.values)}
}

func sameQueue(a, b queue) bool {
	return a.Chan == b.Chan && slices.EqualFunc(a.values, b.values, value.Same)
}
