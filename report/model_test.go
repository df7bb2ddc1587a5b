package report_test

import (
	"encoding/binary"
	"slices"

	"stockade/api"
)

// A model of the chapter in the tests' own words: what is in form, what its bytes are, and what a store does.

func between(n, least, most int) bool {
	return n >= least && n <= most
}

// modelForm tells whether a report is in form.
func modelForm(r api.Report) bool {
	e := r.End
	if !between(e.Outcome, 1, 4) || !between(r.Steps, 0, 65537) || len(r.Races) > 128 {
		return false
	}
	if e.Outcome != 3 && (e.Fault != 0 || e.G != 0 || e.At != 0 || e.N != 0) {
		return false
	}
	if e.Outcome == 3 && (!between(e.Fault, 1, 7) || !between(e.G, 0, 7) || !between(e.At, 0, 8192)) {
		return false
	}
	if e.Fault != 7 && e.N != 0 {
		return false
	}
	for i, c := range r.Races {
		if !between(c.Place, 0, 127) || !between(c.First, 0, 8192) || !between(c.Second, 0, 8192) {
			return false
		}
		if !c.FirstW && !c.SecondW || i > 0 && r.Races[i-1].Place >= c.Place {
			return false
		}
	}
	return true
}

// modelBytes is a report's bytes, each number cut to its field, be it in form or not.
func modelBytes(r api.Report) []byte {
	b := []byte{byte(r.End.Outcome), byte(r.End.Fault), byte(r.End.G)}
	b = binary.BigEndian.AppendUint64(b, uint64(r.End.N))
	b = binary.BigEndian.AppendUint32(b, uint32(r.End.At))
	b = binary.BigEndian.AppendUint32(b, uint32(r.Steps))
	b = binary.BigEndian.AppendUint16(b, uint16(len(r.Races)))
	for _, c := range r.Races {
		b = binary.BigEndian.AppendUint16(b, uint16(c.Place))
		b = binary.BigEndian.AppendUint32(b, uint32(c.First))
		b = binary.BigEndian.AppendUint32(b, uint32(c.Second))
		b = append(b, map[[2]bool]byte{{false, false}: 0, {true, false}: 1, {false, true}: 2, {true, true}: 3}[[2]bool{c.FirstW, c.SecondW}])
	}
	return b
}

// modelRead is the report that bytes tell, and whether they are one's in form.
func modelRead(b []byte) (api.Report, bool) {
	var r api.Report
	if len(b) < 21 || (len(b)-21)%11 != 0 || (len(b)-21)/11 != int(b[19])<<8+int(b[20]) {
		return r, false
	}
	r.End = api.End{Outcome: int(b[0]), Fault: int(b[1]), G: int(b[2]), N: int(int64(binary.BigEndian.Uint64(b[3:]))), At: int(binary.BigEndian.Uint32(b[11:]))}
	r.Steps = int(binary.BigEndian.Uint32(b[15:]))
	for i := 21; i < len(b); i += 11 {
		if b[i+10] > 3 {
			return api.Report{}, false
		}
		r.Races = append(r.Races, api.Race{
			Place:   int(binary.BigEndian.Uint16(b[i:])),
			First:   int(binary.BigEndian.Uint32(b[i+2:])),
			Second:  int(binary.BigEndian.Uint32(b[i+6:])),
			FirstW:  b[i+10]%2 == 1,
			SecondW: b[i+10] >= 2,
		})
	}
	if !modelForm(r) {
		return api.Report{}, false
	}
	return r, true
}

// alike holds two reports against each other, field by field; nil races are as no races.
func alike(a, b api.Report) bool {
	return a.End == b.End && a.Steps == b.Steps && slices.Equal(a.Races, b.Races)
}

// own is a report with races that it shares with none.
func own(r api.Report) api.Report {
	r.Races = slices.Clone(r.Races)
	return r
}

// A shelf is a model of a store: pairs in the order of their numbers.
type shelf struct {
	given   int
	numbers []int
	reports []api.Report
}

func (s *shelf) add(r api.Report) (int, error) {
	switch {
	case !modelForm(r):
		return 0, api.ErrCode
	case len(s.numbers) == 8:
		return 0, api.ErrFull
	}
	s.given++
	s.numbers = append(s.numbers, s.given)
	s.reports = append(s.reports, own(r))
	return s.given, nil
}

func (s *shelf) get(n int) (api.Report, error) {
	i := slices.Index(s.numbers, n)
	if i < 0 {
		return api.Report{}, api.ErrNone
	}
	return own(s.reports[i]), nil
}

func (s *shelf) remove(n int) error {
	i := slices.Index(s.numbers, n)
	if i < 0 {
		return api.ErrNone
	}
	s.numbers = slices.Delete(s.numbers, i, i+1)
	s.reports = slices.Delete(s.reports, i, i+1)
	return nil
}
