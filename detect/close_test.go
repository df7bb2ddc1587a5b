package detect_test

import (
	"slices"
	"testing"

	"stockade/api"
	"stockade/detect"
)

// The tests of P19.1 on closing, and on detectors that are broken.

// TestClose: behind each beginning of a trace, broken or not.
func TestClose(t *testing.T) {
	trace := traced("0 go 1, 1 send 0, 0 recv 0, 1 write 5, 0 read 5, 2 read 5, 2 unlock 4, 0 get 4, 2 send 1, 9 turn, 2 write 5")
	for _, pages := range []int{0, 1, 2, 5, 8, 20} {
		for i := range len(trace) + 1 {
			a := arenaOf(t, pages)
			p := newPair(a, &shelf{pages: make([]int, pages)}, []int{2, 3})
			for _, e := range trace[:i] {
				p.take(t, e)
			}
			races, taken := p.Races(), p.Taken()
			p.model.close()
			for range 2 {
				p.Close()
				p.check(t)
				if !p.Broken() || p.Pages() != 0 || p.Taken() != taken || !slices.Equal(p.Races(), races) || a.Used() != 0 {
					t.Fatalf("%s in %d pages: %v, %d, %d, %v, %d", told(trace[:i]), pages, p.Broken(), p.Pages(), p.Taken(), p.Races(), a.Used())
				}
				for _, e := range trace {
					if err := p.take(t, e); err != api.ErrState {
						t.Fatal(e, err)
					}
				}
			}
		}
	}
}

// TestPagesAreFreed: all pages of a closed detector are free, and their words 0.
func TestPagesAreFreed(t *testing.T) {
	a := arenaOf(t, 30)
	d := detect.New(a, []int{8})
	for _, e := range traced("0 go 1, 1 send 0, 0 recv 0, 1 write 5, 0 read 5, 2 read 5, 2 unlock 4, 0 get 4, 2 send 0") {
		if err := d.Take(e); err != nil {
			t.Error(err)
		}
	}
	d.Close()
	at, err := a.Alloc(30 * api.PageWords)
	if at != 0 || err != nil {
		t.Fatal(at, err)
	}
	if words := wordsOf(a); slices.ContainsFunc(words, func(v int) bool { return v != 0 }) {
		t.Error(words)
	}
}

// TestCloseOnceMore: closed a second time, it frees nothing that another one has allocated by then.
func TestCloseOnceMore(t *testing.T) {
	a := arenaOf(t, 5)
	first, second := detect.New(a, nil), detect.New(a, nil)
	trace := traced("0 write 5, 1 write 5")
	for _, e := range trace {
		first.Take(e)
	}
	first.Close()
	for _, e := range trace {
		if err := second.Take(e); err != nil {
			t.Error(err)
		}
	}
	words := wordsOf(a)
	first.Close()
	if !slices.Equal(wordsOf(a), words) || second.Pages() != 3 || a.Used() != 3 {
		t.Error(wordsOf(a), second.Pages(), a.Used())
	}
	if err := second.Take(traced("0 read 5")[0]); err != nil || racesText(second.Races()) != "5: w100 w101" {
		t.Error(err, second.Races())
	}
}

// TestCloseOfNothing: a detector that took nothing.
func TestCloseOfNothing(t *testing.T) {
	a := arenaOf(t, 3)
	a.Alloc(20)
	d := detect.New(a, nil)
	if d.Broken() || d.Pages() != 0 || d.Taken() != 0 || len(d.Races()) != 0 {
		t.Error(d.Broken(), d.Pages(), d.Taken(), d.Races())
	}
	d.Close()
	if !d.Broken() || d.Pages() != 0 || d.Taken() != 0 || len(d.Races()) != 0 || a.Used() != 2 || d.Take(traced("0 turn")[0]) != api.ErrState {
		t.Error(d.Broken(), d.Pages(), d.Taken(), d.Races())
	}
}

// TestBroken: behind ErrArena all is answered with ErrState, also what isn't in form, what needs no pages, and what came before.
func TestBroken(t *testing.T) {
	for _, last := range traced("0 unlock 3, 0 get 3, 0 send 0, 0 write 6, 1 turn, 0 go 1") {
		p := newPair(arenaOf(t, 2), &shelf{pages: make([]int, 2)}, nil)
		first := traced("0 write 5")[0]
		if p.take(t, first) != nil || p.take(t, last) != api.ErrArena {
			t.Error(last)
		}
		for _, e := range []api.Event{first, last, {Kind: api.EvTurn}, {Kind: 13}, {G: -1}, {Kind: api.EvGo, Obj: 9}} {
			if err := p.take(t, e); err != api.ErrState || p.Pages() != 2 || p.Taken() != 1 || !p.Broken() {
				t.Error(e, err)
			}
		}
	}
}
