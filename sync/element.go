package sync

import (
	"stockade/api"
	"stockade/value"
)

// element is the list's element of this number, to be read or set in the list itself.
func element[T any](list []T, i int) (*T, error) {
	if i < 0 || i >= len(list) {
		return nil, api.ErrRange
	}
	return &list[i], nil
}

// fits tells whether there may be so many mutexes, channels or atomics.
func fits(count int) bool {
	return count >= 0 && count <= api.MaxObjects
}

func noType(typ int) bool {
	return value.Zero(typ).Type == 0
}

func noChan(c api.Chan) bool {
	return noType(c.Type) || c.Room < 0 || c.Room > api.MaxRoom
}

// isOf tells whether a value is in form and of this type.
func isOf(v api.Value, typ int) bool {
	return value.Good(v) && v.Type == typ
}
