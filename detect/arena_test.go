package detect_test

import (
	"slices"
	"testing"

	"stockade/api"
	"stockade/detect"
)

// The tests of P19.1 on arenas: with as many free pages as are needed and with fewer, partly used by others, and shared by several detectors.

// used is an arena, and its shelf, of which others hold the pages marked by x: "x.x." has its second and fourth pages free.
func used(t *testing.T, marks string) (pair, []int) {
	t.Helper()
	a := arenaOf(t, len(marks))
	s := &shelf{pages: make([]int, len(marks))}
	var addresses, free []int
	for i, mark := range marks {
		at, err := a.Alloc(1)
		if err != nil || a.Set(at+3, 1000+i) != nil {
			t.Fatal(err)
		}
		s.put(1)
		if mark == 'x' {
			addresses = append(addresses, at)
		} else {
			free = append(free, i)
		}
	}
	for _, i := range free {
		s.pages[i] = 0
		if err := a.Free(i * api.PageWords); err != nil {
			t.Fatal(err)
		}
	}
	return newPair(a, s, nil), addresses
}

// checkOthers asks for the words of pages that others hold.
func checkOthers(t *testing.T, p pair, addresses []int) {
	t.Helper()
	for _, at := range addresses {
		for i := range api.PageWords {
			want := 0
			if i == 3 {
				want = 1000 + at/api.PageWords
			}
			if v, err := p.arena.Get(at + i); v != want || err != nil || p.arena.Size(at) != api.PageWords {
				t.Errorf("word %d of the page at %d is %d, %v", i, at, v, err)
			}
		}
	}
}

// inUsed are an arena's marks, rooms, a trace, how many of its events are taken, and the marks behind them: of pages that it holds, a letter for each run.
type inUsed struct {
	marks string
	rooms []int
	trace string
	taken int
	after string
}

func (x inUsed) check(t *testing.T) {
	t.Helper()
	first, addresses := used(t, x.marks)
	p := newPair(first.arena, first.model.shelf, x.rooms)
	trace := traced(x.trace)
	others := first.model.shelf.runs
	for i, e := range trace {
		err := p.take(t, e)
		if i < x.taken && err != nil || i == x.taken && err != api.ErrArena || i > x.taken && err != api.ErrState {
			t.Errorf("%v: %v at %d", x, err, i)
		}
	}
	var after []byte
	for _, run := range p.model.shelf.pages {
		switch {
		case run == 0:
			after = append(after, '.')
		case run <= others:
			after = append(after, 'x')
		default:
			after = append(after, byte('a'+slices.Index(p.model.runs, run)))
		}
	}
	if string(after) != x.after {
		t.Errorf("%v: then %s", x, after)
	}
	checkOthers(t, p, addresses)
	p.model.close()
	p.Close()
	p.check(t)
	checkOthers(t, p, addresses)
	if n := p.arena.Used(); n != len(addresses) {
		t.Errorf("%v: %d pages are in use", x, n)
	}
}

// TestOrderOfPages: an event's pages are allocated in their order, each in the lowest free pages.
func TestOrderOfPages(t *testing.T) {
	for _, x := range []inUsed{
		{"....", nil, "0 write 5, 0 go 1, 1 read 5", 3, "abc."},
		{"x.x.x..", nil, "0 write 5, 0 go 1, 1 read 5", 3, "xaxbxc."},
		{".x..x.", []int{2}, "0 send 0, 0 unlock 1", 2, "axbbxc"},
		{"x....", []int{3}, "0 recv 0, 0 recv 0", 2, "xabbb"},
		{".x.x..x...", []int{3, 2}, "0 turn, 0 send 1, 0 send 0, 0 go 1", 4, "axdxbbxccc"}, // a later one fills what runs left free
		{"..x.", nil, "0 read 5, 1 read 5", 1, "abx."},                                     // there is one for goroutine 1, and none for the place's second one
		{"..x..", nil, "0 read 5, 1 read 5", 2, "abxcd"},
	} {
		x.check(t)
	}
}

// TestJustEnough: as many free pages as an event needs, one fewer, and none.
func TestJustEnough(t *testing.T) {
	for _, x := range []struct {
		before, event string
		rooms         []int
		size          int
	}{
		{"2 turn", "0 turn", nil, 1},
		{"2 turn", "0 go 0", nil, 1},
		{"2 turn", "2 go 0", nil, 1},
		{"2 turn", "0 go 2", nil, 1},
		{"2 turn", "0 go 1", nil, 2},
		{"2 turn", "0 unlock 7", nil, 2},
		{"2 turn", "2 unlock 7", nil, 1},
		{"2 unlock 7", "0 unlock 7", nil, 1},
		{"2 turn", "0 get 7", nil, 2},
		{"2 turn", "0 put 7", nil, 2},
		{"2 get 7", "0 add 7", nil, 1},
		{"2 turn", "0 send 0", nil, 2},
		{"2 turn", "0 send 0", []int{8}, 9},
		{"2 turn", "2 recv 0", []int{8}, 8},
		{"2 turn", "0 recv 0", []int{5}, 6},
		{"2 send 0", "0 recv 0", []int{5}, 1},
		{"2 turn", "0 read 5", nil, 2},
		{"2 turn", "0 write 5", nil, 2},
		{"2 read 5", "0 read 5", nil, 2},
		{"2 read 5, 0 turn", "0 read 5", nil, 1},
		{"2 read 5", "0 write 5", nil, 1},
		{"2 read 5, 0 read 5", "1 read 5", nil, 1},
	} {
		before, last := traced(x.before), traced(x.event)[0]
		base := needed(before, x.rooms)
		for free := range x.size + 3 {
			a := arenaOf(t, base+free)
			p := newPair(a, &shelf{pages: make([]int, base+free)}, x.rooms)
			for _, e := range before {
				if err := p.take(t, e); err != nil {
					t.Fatalf("%s: %v", x.before, err)
				}
			}
			err := p.take(t, last)
			if want := map[bool]error{false: nil, true: api.ErrArena}[free < x.size]; err != want {
				t.Errorf("%s, then %s with %d pages free: %v", x.before, x.event, free, err)
			}
			if err != nil && (!p.Broken() || p.Pages() != base || p.Taken() != len(before) || a.Used() != base) {
				t.Errorf("%s, then %s with %d pages free: %v, %d pages, %d taken", x.before, x.event, free, p.Broken(), p.Pages(), p.Taken())
			}
		}
	}
}

// TestNeedsNothingMore: in an arena without a free page all is taken that needs none.
func TestNeedsNothingMore(t *testing.T) {
	begin := traced("0 go 1, 0 unlock 3, 0 put 3, 0 send 0, 0 write 3, 0 read 3, 1 read 3")
	n := needed(begin, []int{2})
	for _, last := range traced("0 lock 4, 0 lock 3, 1 unlock 3, 1 get 3, 1 add 3, 1 recv 0, 0 read 3, 1 write 3, 1 go 0, 1 go 1, 0 turn, 1 end") {
		p := newPair(arenaOf(t, n), &shelf{pages: make([]int, n)}, []int{2})
		for _, e := range append(slices.Clone(begin), last, last) {
			if err := p.take(t, e); err != nil {
				t.Errorf("%v: %v", e, err)
			}
		}
	}
}

// TestRunInGaps: a channel needs its pages in one run.
func TestRunInGaps(t *testing.T) {
	for _, x := range []inUsed{
		{".x.x.", []int{1}, "0 send 0", 1, "axbx."},
		{".x.x.", []int{2}, "0 send 0", 0, ".x.x."},
		{"..x.x..x...", []int{2}, "0 send 0", 1, "a.x.xbbx..."},
		{"..x.x..x...", []int{3}, "0 send 0", 1, "a.x.x..xbbb"},
		{"..x.x..x...", []int{4}, "0 send 0", 0, "..x.x..x..."},
		{"..x", []int{2}, "0 send 0", 0, "..x"},     // its goroutine takes one of them first
		{"...x.", []int{3}, "0 recv 0", 0, "...x."}, // so too, though there is another one free
		{".x...", []int{3}, "0 recv 0", 1, "axbbb"},
		{".x.x.x.x.x.x.x.x.x........", []int{8, 8}, "0 send 0, 1 recv 0, 1 recv 1", 2, "axcx.x.x.x.x.x.x.xbbbbbbbb"},
		{".x.x.x.x.x.x.x.x.x.......", []int{8}, "0 send 0, 0 send 0", 0, ".x.x.x.x.x.x.x.x.x......."},
		{".x.x.x.x", []int{0, -1, 1, 2}, "0 send 0, 0 send 1, 0 send 2, 0 turn, 0 send 3", 4, "axbxcxdx"},
	} {
		x.check(t)
	}
}

// TestPartlyUsed: an arena of which others hold pages in all ways.
func TestPartlyUsed(t *testing.T) {
	trace := traced("0 go 1, 1 send 0, 0 recv 0, 1 write 5, 0 read 5, 2 read 5, 2 unlock 4, 0 get 4, 2 send 1")
	rooms := []int{2, 3}
	for mask := range 1 << 12 {
		marks := make([]byte, 12)
		for i := range marks {
			marks[i] = ".x"[mask>>i&1]
		}
		first, addresses := used(t, string(marks))
		p := newPair(first.arena, first.model.shelf, rooms)
		for _, e := range trace {
			p.take(t, e)
		}
		checkOthers(t, p, addresses)
		p.Close()
		if p.arena.Used() != len(addresses) {
			t.Fatalf("%s: %d pages are in use", marks, p.arena.Used())
		}
		checkOthers(t, p, addresses)
	}
}

// TestAnotherOneFrees: pages that others free while a detector is at it are its to use.
func TestAnotherOneFrees(t *testing.T) {
	a := arenaOf(t, 3)
	at, _ := a.Alloc(api.PageWords)
	d := detect.New(a, nil)
	if err := d.Take(traced("0 write 4")[0]); err != nil {
		t.Error(err)
	}
	if err := a.Free(at); err != nil {
		t.Error(err)
	}
	if err := d.Take(traced("1 write 4")[0]); err != nil || racesText(d.Races()) != "4: w100 w100" {
		t.Error(err, d.Races())
	}
	if err := d.Take(traced("2 turn")[0]); err != api.ErrArena {
		t.Error(err)
	}
}

// TestTwoInOne: two detectors in one arena each have pages, places and clocks of their own.
func TestTwoInOne(t *testing.T) {
	a := arenaOf(t, 8)
	s := &shelf{pages: make([]int, 8)}
	one, two := newPair(a, s, []int{1}), newPair(a, s, []int{2})
	for _, e := range traced("0 go 1, 0 write 3") {
		one.take(t, e)
	}
	for _, e := range traced("1 write 3, 1 unlock 3") {
		two.take(t, e)
	}
	one.take(t, traced("1 read 3")[0])
	two.take(t, traced("1 read 3")[0])
	if racesText(one.Races()) != "3: w101 r100" || len(two.Races()) != 0 || one.Pages() != 3 || two.Pages() != 3 {
		t.Error(one.Races(), two.Races(), one.Pages(), two.Pages())
	}
	if err := two.take(t, traced("1 send 0")[0]); err != nil {
		t.Error(err)
	}
	if err := one.take(t, traced("1 send 0")[0]); err != api.ErrArena || two.Broken() {
		t.Error(err)
	}
	two.model.close()
	two.Close()
	two.check(t)
	one.check(t)
	if one.Take(traced("1 turn")[0]) != api.ErrState || one.Pages() != 3 {
		t.Error("it is broken, however many pages are free by now")
	}
}

// TestOneBehindAnother: behind a detector that was closed another one has all pages, and knows nothing of it.
func TestOneBehindAnother(t *testing.T) {
	for pages := range 9 {
		a := arenaOf(t, pages)
		trace := traced("0 go 1, 0 write 3, 1 write 4, 0 read 3, 1 read 3, 1 unlock 2")
		var first []error
		for n := range 4 {
			p := newPair(a, &shelf{pages: make([]int, pages)}, nil)
			var errs []error
			for _, e := range trace {
				errs = append(errs, p.take(t, e))
			}
			if n == 0 {
				first = errs
			}
			if want := map[bool]string{true: "3: w101 r104"}[pages >= 5]; !slices.Equal(errs, first) || racesText(p.Races()) != want {
				t.Errorf("in %d pages: %v, %s", pages, errs, racesText(p.Races()))
			}
			p.Close()
		}
	}
}

// TestOtherArenas: what a detector does to its arena is nothing to the pool's other ones.
func TestOtherArenas(t *testing.T) {
	p := arenasOf(t, 2, 3, 2)
	ahead, behind := detect.New(p[0], nil), detect.New(p[2], nil)
	d := detect.New(p[1], nil)
	for _, e := range traced("0 write 4, 1 write 4, 0 read 4, 1 unlock 4") {
		ahead.Take(e)
		d.Take(e)
		behind.Take(e)
	}
	if racesText(d.Races()) != "4: w100 w101" || d.Taken() != 3 || d.Pages() != 3 {
		t.Error(d.Races(), d.Taken(), d.Pages())
	}
	for _, o := range []*detect.Detector{ahead, behind} {
		if len(o.Races()) != 0 || o.Taken() != 1 || o.Pages() != 2 || !o.Broken() {
			t.Error(o.Races(), o.Taken(), o.Pages())
		}
	}
	d.Close()
	if p[0].Used() != 2 || p[1].Used() != 0 || p[2].Used() != 2 {
		t.Error(p[0].Used(), p[1].Used(), p[2].Used())
	}
}
