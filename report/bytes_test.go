package report_test

import (
	"bytes"
	"math/rand"
	"slices"
	"testing"

	"stockade/api"
	"stockade/report"
)

// The tests of P20.1 on Put's and Get's bytes, and of P20.2.

func zeros(n int) []byte {
	return make([]byte, n)
}

func joined(parts ...[]byte) []byte {
	return bytes.Join(parts, nil)
}

// A written is a report and the bytes that it has.
type written struct {
	name string
	x    api.Report
	b    []byte
}

func writtenByHand() []written {
	fail := func(n int) api.Report {
		return api.Report{End: api.End{Outcome: api.Faulted, Fault: api.FaultFail, G: 7, N: n, At: 0x1234}, Steps: 0x10001}
	}
	failed := func(n ...byte) []byte {
		return joined([]byte{3, 7, 7}, n, []byte{0, 0, 0x12, 0x34, 0, 1, 0, 1, 0, 0})
	}
	raced := func(c ...api.Race) api.Report {
		return api.Report{End: api.End{Outcome: api.FuelOut}, Steps: 10, Races: c}
	}
	racy := func(many byte) []byte {
		return joined([]byte{4, 0, 0}, zeros(12), []byte{0, 0, 0, 10, 0, many})
	}
	return []written{
		{"the chapter's example", api.Report{End: api.End{Outcome: api.Finished}, Steps: 3}, joined([]byte{1, 0, 0}, zeros(8), zeros(4), []byte{0, 0, 0, 3, 0, 0})},
		{"a deadlock", api.Report{End: api.End{Outcome: api.Deadlock}, Steps: 0xabcd}, joined([]byte{2, 0, 0}, zeros(12), []byte{0, 0, 0xab, 0xcd, 0, 0})},
		{"a fault", api.Report{End: api.End{Outcome: api.Faulted, Fault: 2, G: 5, At: 8192}}, joined([]byte{3, 2, 5}, zeros(8), []byte{0, 0, 0x20, 0}, zeros(6))},
		{"N 1", fail(1), failed(0, 0, 0, 0, 0, 0, 0, 1)},
		{"N -1", fail(-1), failed(255, 255, 255, 255, 255, 255, 255, 255)},
		{"N -2", fail(-2), failed(255, 255, 255, 255, 255, 255, 255, 254)},
		{"N of eight bytes", fail(0x0102030405060708), failed(1, 2, 3, 4, 5, 6, 7, 8)},
		{"N of eight bytes, below 0", fail(-0x0102030405060708), failed(0xfe, 0xfd, 0xfc, 0xfb, 0xfa, 0xf9, 0xf8, 0xf8)},
		{"the least N", fail(-1 << 63), failed(128, 0, 0, 0, 0, 0, 0, 0)},
		{"the greatest N", fail(1<<63 - 1), failed(127, 255, 255, 255, 255, 255, 255, 255)},
		{"N 0", fail(0), failed(zeros(8)...)},
		{"first writes", raced(api.Race{Place: 127, First: 0x0102, Second: 0x0304, FirstW: true}), joined(racy(1), []byte{0, 127, 0, 0, 1, 2, 0, 0, 3, 4, 1})},
		{"second writes", raced(api.Race{Place: 1, First: 8192, SecondW: true}), joined(racy(1), []byte{0, 1, 0, 0, 0x20, 0, 0, 0, 0, 0, 2})},
		{"both write", raced(api.Race{Second: 8191, FirstW: true, SecondW: true}), joined(racy(1), []byte{0, 0, 0, 0, 0, 0, 0, 0, 0x1f, 0xff, 3})},
		{
			"three races",
			raced(api.Race{Place: 2, First: 9, Second: 8, FirstW: true}, api.Race{Place: 3, First: 7, Second: 6, SecondW: true}, api.Race{Place: 100, First: 5, Second: 5, FirstW: true, SecondW: true}),
			joined(racy(3), []byte{0, 2, 0, 0, 0, 9, 0, 0, 0, 8, 1}, []byte{0, 3, 0, 0, 0, 7, 0, 0, 0, 6, 2}, []byte{0, 100, 0, 0, 0, 5, 0, 0, 0, 5, 3}),
		},
	}
}

// bothWays holds Put of a report, and Get of what it made, against the bytes.
func bothWays(t *testing.T, name string, x api.Report, want []byte) {
	t.Helper()
	b, err := report.Put(x)
	if err != nil || !bytes.Equal(b, want) {
		t.Fatalf("%s: %v, %v, not %v", name, b, err, want)
	}
	y, err := report.Get(b)
	if err != nil || !alike(x, y) {
		t.Fatalf("%s: %v, %v, not %v", name, y, err, x)
	}
}

// refused holds Get of bytes that are no report's.
func refused(t *testing.T, name string, b []byte) {
	t.Helper()
	if x, err := report.Get(b); err != api.ErrCode || x.End != (api.End{}) || x.Steps != 0 || len(x.Races) != 0 {
		t.Errorf("%s: %v, %v of %v", name, x, err, b)
	}
}

// got holds Get of any bytes against the model; what is taken is written again as it was.
func got(t *testing.T, name string, b []byte) bool {
	t.Helper()
	x, good := modelRead(b)
	if !good {
		refused(t, name, b)
		return false
	}
	y, err := report.Get(b)
	if err != nil || !alike(x, y) {
		t.Errorf("%s: %v, %v, not %v", name, y, err, x)
	}
	if again, err := report.Put(y); err != nil || !bytes.Equal(again, b) {
		t.Errorf("%s: %v became %v, %v", name, b, again, err)
	}
	return true
}

func TestBytesByHand(t *testing.T) {
	for _, w := range writtenByHand() {
		bothWays(t, w.name, w.x, w.b)
	}
}

func TestBytesOfAFullReport(t *testing.T) {
	b, err := report.Put(full())
	if err != nil || len(b) != 21+128*11 || b[19] != 0 || b[20] != 128 {
		t.Fatal(len(b), err)
	}
	for p := range 128 {
		writes := []byte{2, 1, 3}[p%3]
		first, second := p*64, 8192-p
		want := []byte{0, byte(p), 0, 0, byte(first >> 8), byte(first), 0, 0, byte(second >> 8), byte(second), writes}
		if part := b[21+p*11:][:11]; !bytes.Equal(part, want) {
			t.Errorf("race %d: %v, not %v", p, part, want)
		}
	}
	bothWays(t, "full", full(), b)
}

// TestBeginnings: no beginning of a report's bytes is a report's, nor one byte more, nor a race's bytes more.
func TestBeginnings(t *testing.T) {
	list := append(writtenByHand(), written{"full", full(), modelBytes(full())})
	for _, w := range list {
		for n := range w.b {
			refused(t, w.name, w.b[:n])
		}
		for more := range 256 {
			refused(t, w.name, joined(w.b, []byte{byte(more)}))
		}
		race := []byte{0, 127, 0, 0, 0, 0, 0, 0, 0, 0, 3}
		refused(t, w.name, joined(w.b, race))
		refused(t, w.name, joined(w.b, race[:10]))
		refused(t, w.name, joined(w.b, w.b))
		refused(t, w.name, joined(w.b, zeros(1<<16)))
		refused(t, w.name, w.b[1:])
	}
}

// TestOneByteChanged: each byte of a report's, to each value.
func TestOneByteChanged(t *testing.T) {
	taken, wrong := 0, 0
	for _, w := range writtenByHand() {
		for i := range w.b {
			for v := range 256 {
				b := slices.Clone(w.b)
				b[i] = byte(v)
				if got(t, w.name, b) {
					taken++
				} else {
					wrong++
				}
			}
		}
	}
	if taken < 2000 || wrong < 2000 {
		t.Error("too few of a kind:", taken, wrong)
	}
}

// TestWritesByte: the last byte of a race is 1, 2 or 3, of each race.
func TestWritesByte(t *testing.T) {
	for i := range 3 {
		for v := range 256 {
			b := modelBytes(placed(1, 2, 9))
			b[21+11*i+10] = byte(v)
			x, err := report.Get(b)
			if v < 1 || v > 3 {
				refused(t, "writes", b)
				continue
			}
			if err != nil || x.Races[i].FirstW != (v != 2) || x.Races[i].SecondW != (v != 1) {
				t.Error(i, v, x, err)
			}
		}
	}
}

// TestHowManyByte: bytes that tell of other than the races that they have.
func TestHowManyByte(t *testing.T) {
	for _, n := range []int{0, 1, 2, 127, 128} {
		x := full()
		x.Races = x.Races[:n]
		b := modelBytes(x)
		for told := range 1 << 16 {
			b[19], b[20] = byte(told>>8), byte(told)
			if told == n {
				bothWays(t, "how many", x, b)
			} else if _, err := report.Get(b); err != api.ErrCode {
				t.Fatal(n, told, err)
			}
		}
	}
	x := full()
	x.Races = append(x.Races, api.Race{Place: 128, FirstW: true})
	refused(t, "one race more", modelBytes(x))
	x.Races[128].Place = 127
	refused(t, "one race more, of the last place", modelBytes(x))
	refused(t, "as many as can be told", joined([]byte{1}, zeros(18), []byte{255, 255}, zeros(65535*11)))
}

func TestBytesThatAreNone(t *testing.T) {
	refused(t, "nil", nil)
	refused(t, "none", []byte{})
	refused(t, "a byte", []byte{1})
	refused(t, "21 zeros", zeros(21))
	refused(t, "21 of 255", bytes.Repeat([]byte{255}, 21))
	refused(t, "a million zeros", zeros(1<<20))
	refused(t, "a million of 255", bytes.Repeat([]byte{255}, 1<<20))
	refused(t, "a million of 1", bytes.Repeat([]byte{1}, 1<<20))
}

// TestBytesOfWhatIsNotInForm: bytes that tell a report that isn't in form, as far as bytes can.
func TestBytesOfWhatIsNotInForm(t *testing.T) {
	for _, x := range []api.Report{
		{},
		{End: api.End{Outcome: 5}},
		{End: api.End{Outcome: 255}},
		{End: api.End{Outcome: 1, Fault: 1}},
		{End: api.End{Outcome: 2, G: 1}},
		{End: api.End{Outcome: 4, N: 1}},
		{End: api.End{Outcome: 1, N: -1}},
		{End: api.End{Outcome: 1, At: 1}},
		{End: api.End{Outcome: 3}},
		{End: api.End{Outcome: 3, Fault: 8}},
		{End: api.End{Outcome: 3, Fault: 1, G: 8}},
		{End: api.End{Outcome: 3, Fault: 1, At: 8193}},
		{End: api.End{Outcome: 3, Fault: 1, At: -1}},
		{End: api.End{Outcome: 3, Fault: 7, At: 1 << 31}},
		{End: api.End{Outcome: 3, Fault: 6, N: 1}},
		{End: api.End{Outcome: 3, Fault: 6, N: -1 << 63}},
		{End: api.End{Outcome: 1}, Steps: 65538},
		{End: api.End{Outcome: 1}, Steps: -1},
		placed(128), placed(-1), placed(65535), placed(1, 1), placed(2, 1), placed(1, 2, 2), placed(256), placed(0, 256, 3),
		{End: api.End{Outcome: 1}, Races: []api.Race{{}}},
		{End: api.End{Outcome: 1}, Races: []api.Race{{First: 8193, FirstW: true}}},
		{End: api.End{Outcome: 1}, Races: []api.Race{{First: -1, FirstW: true}}},
		{End: api.End{Outcome: 1}, Races: []api.Race{{Second: 8193, FirstW: true}}},
		{End: api.End{Outcome: 1}, Races: []api.Race{{Second: -1, FirstW: true}}},
		{End: api.End{Outcome: 1}, Races: []api.Race{{FirstW: true}, {Place: 1}}},
	} {
		refused(t, "not in form", modelBytes(x))
	}
}

// TestThereAndBack: P20.2, both ways, of random reports, of bytes that were changed a little, and of random bytes.
func TestThereAndBack(t *testing.T) {
	r := rand.New(rand.NewSource(2002))
	taken, wrong := 0, 0
	for range many(60000) {
		x := randomReport(r)
		b := modelBytes(x)
		bothWays(t, "a random report", x, b)
		for range 1 + r.Intn(2) {
			b = changed(r, b)
		}
		if got(t, "changed bytes", b) {
			taken++
		} else {
			wrong++
		}
	}
	if taken < many(5000) || wrong < many(5000) {
		t.Error("too few of a kind:", taken, wrong)
	}
}

// changed is bytes of which one was changed, or some were cut off or put behind.
func changed(r *rand.Rand, b []byte) []byte {
	b = slices.Clone(b)
	if len(b) == 0 {
		return []byte{1}
	}
	i := r.Intn(len(b))
	switch r.Intn(10) {
	case 0:
		return b[:i]
	case 1:
		return slices.Delete(b, i, i+1)
	case 2:
		return slices.Insert(b, i, byte(r.Intn(4)))
	case 3, 4, 5:
		b[i] ^= 1 << r.Intn(8)
	case 6, 7:
		b[i] = byte(r.Intn(256))
	default:
		b[len(b)-1] = byte(r.Intn(5))
	}
	return b
}

// TestRandomBytes: bytes that are made of what stands in reports, a number at a time.
func TestRandomBytes(t *testing.T) {
	r := rand.New(rand.NewSource(2003))
	taken := 0
	for range many(100000) {
		var b []byte
		races := r.Intn(3)
		b = append(b, byte(1+r.Intn(4)), byte(r.Intn(3)*r.Intn(5)), byte(r.Intn(2)*r.Intn(9)))
		b = append(b, joined(zeros(7), []byte{byte(r.Intn(2))})...)
		b = append(b, 0, 0, byte(r.Intn(2)*r.Intn(34)), byte(r.Intn(2)))
		b = append(b, 0, byte(r.Intn(2)), 0, byte(r.Intn(3)), 0, byte(races))
		for i := range races {
			b = append(b, 0, byte(i*r.Intn(129)), 0, 0, byte(r.Intn(34)), 0, 0, 0, byte(r.Intn(34)), 0, byte(r.Intn(5)))
		}
		if got(t, "random bytes", b) {
			taken++
		}
	}
	if taken < many(3000) {
		t.Error("too few were taken:", taken)
	}
}
