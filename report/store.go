package report

import (
	"maps"
	"slices"

	"stockade/api"
)

// Store is a tenant's reports.
type Store struct {
	last int // the number that was given last: none is given twice
	held map[int]api.Report
}

// New is a store without reports.
func New() *Store {
	return &Store{held: map[int]api.Report{}}
}

// Add adds a report.
func (s *Store) Add(r api.Report) (int, error) {
	if err := Check(r); err != nil {
		return 0, err
	}
	if s.Full() {
		return 0, api.ErrFull
	}
	s.last++
	s.held[s.last] = copied(r)
	return s.last, nil
}

// Get is a report.
func (s *Store) Get(n int) (api.Report, error) {
	r, ok := s.held[n]
	if !ok {
		return api.Report{}, api.ErrNone
	}
	return copied(r), nil
}

// Delete deletes one.
func (s *Store) Delete(n int) error {
	if _, ok := s.held[n]; !ok {
		return api.ErrNone
	}
	delete(s.held, n)
	return nil
}

// List is all numbers.
func (s *Store) List() []int {
	return slices.Sorted(maps.Keys(s.held))
}

// Full tells whether there is no room.
func (s *Store) Full() bool {
	return len(s.held) >= api.MaxReports
}

// copied is the report with races of its own.
func copied(r api.Report) api.Report {
	r.Races = append([]api.Race(nil), r.Races...)
	return r
}
