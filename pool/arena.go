package pool

import "stockade/api"

// Arena is a tenant's pages.
type Arena struct {
	pages []page
	runs  []int // of each page: 1 more than its run's first page; 0, if it is free
}

// cut takes the room away behind the last page, so that no arena reaches the pages of the next one.
func cut(pages []page, from, to int) Arena {
	return Arena{pages: pages[from:to:to], runs: make([]int, to-from)}
}

// Alloc allocates words.
func (a *Arena) Alloc(words int) (int, error) {
	if words < 1 {
		return 0, api.ErrRange
	}
	count := (words-1)/api.PageWords + 1 // words+PageWords-1 could wrap round
	first, ok := a.gap(count)
	if !ok {
		return 0, api.ErrArena
	}
	for i := first; i < first+count; i++ {
		a.runs[i] = first + 1
	}
	return first * api.PageWords, nil
}

// Free frees a run.
func (a *Arena) Free(at int) error {
	from, to := a.run(at)
	if from == to {
		return api.ErrNone
	}
	a.release(from, to)
	return nil
}

// Get is a word.
func (a *Arena) Get(at int) (int, error) {
	i, ok := a.page(at)
	if !ok {
		return 0, api.ErrRange
	}
	return a.pages[i][at%api.PageWords], nil
}

// Set sets a word.
func (a *Arena) Set(at, v int) error {
	i, ok := a.page(at)
	if !ok {
		return api.ErrRange
	}
	a.pages[i][at%api.PageWords] = v
	return nil
}

// Size is how many words a run has.
func (a *Arena) Size(at int) int {
	from, to := a.run(at)
	return (to - from) * api.PageWords
}

// Used is how many pages are in runs.
func (a *Arena) Used() int {
	used := 0
	for _, run := range a.runs {
		if run != 0 {
			used++
		}
	}
	return used
}

// Share is how many pages the arena has.
func (a *Arena) Share() int {
	return len(a.pages)
}

// Clear frees all runs.
func (a *Arena) Clear() {
	a.release(0, len(a.pages))
}

// gap is the first of the lowest count free pages in a row; false, if there are none.
func (a *Arena) gap(count int) (int, bool) {
	free := 0
	for i, run := range a.runs {
		if run != 0 {
			free = 0
			continue
		}
		free++
		if free == count {
			return i + 1 - count, true
		}
	}
	return 0, false
}

// page is the page of this word; false, if that is in no run.
func (a *Arena) page(at int) (int, bool) {
	// Asked ahead of dividing, by which the words just below 0 would be page 0's.
	if at < 0 || at >= len(a.pages)*api.PageWords {
		return 0, false
	}
	i := at / api.PageWords
	return i, a.runs[i] != 0
}

// run is the pages of the run that has this address, from and up to; none, if no run has it.
func (a *Arena) run(at int) (from, to int) {
	from, ok := a.page(at)
	if !ok || at%api.PageWords != 0 {
		return 0, 0
	}
	to = from // and stays there, if the page is one within a run: that names another first page
	for to < len(a.runs) && a.runs[to] == from+1 {
		to++
	}
	return from, to
}

// release clears the words too, since all words of free pages are 0.
func (a *Arena) release(from, to int) {
	clear(a.pages[from:to])
	clear(a.runs[from:to])
}
