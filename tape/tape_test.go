package tape

import (
	"encoding/binary"
	"fmt"
	"math"
	"reflect"
	"runtime"
	"slices"
	"strings"
	"sync"
	"testing"
	"time"

	"cellarer/api"
	"cellarer/block"
	"cellarer/change"
	"cellarer/zone"
)

// The document's limits, as numbers of their own.
const (
	octets     = 64    // of a block
	mostRecord = 12000 // octets of a record
	mostNotes  = 100   // of a record
	inHead     = 58    // octets of a record in its first block
	inBody     = 60    // octets of it in each other one
	around     = 26    // octets of a record of one note beside its Name and its Val
)

// zeros is so many octets 0.
func zeros(n int) string { return strings.Repeat("\x00", n) }

// two is a number's two octets, the lowest first.
func two(n int) string { return string([]byte{byte(n % 256), byte(n / 256)}) }

// eight is a number's octets, the lowest first.
func eight(n uint64) string { return string(binary.LittleEndian.AppendUint64(nil, n)) }

// is is a note of a change that is not Gone.
func is(stamp uint64, name, val string) api.Note {
	return api.Note{Stamp: stamp, C: api.Change{Name: name, Val: val}}
}

// gone is a note of a change that is Gone.
func gone(stamp uint64, name string) api.Note {
	return api.Note{Stamp: stamp, C: api.Change{Name: name, Gone: true}}
}

// of is a record of one note that has so many octets.
func of(n int) []api.Note { return []api.Note{is(7, "a", strings.Repeat("v", n-around-1))} }

// many is a record of so many notes.
func many(n int) []api.Note {
	var l []api.Note
	for i := range n {
		l = append(l, is(uint64(i+1), fmt.Sprint("n", i), "v"))
	}
	return l
}

// long is a record that has so many octets, at least 8087.
func long(n int) []api.Note {
	most := strings.Repeat("v", 4000)
	return []api.Note{is(1, "a", most), is(1, "b", most), is(1, "c", strings.Repeat("w", n-2-2*4025-25))}
}

// wantOctets is a record's octets, as the document's words say it.
func wantOctets(l []api.Note) string {
	all := two(4 * len(l))
	for _, n := range l {
		flag := uint64(0)
		if n.C.Gone {
			flag = 1
		}
		for _, s := range []string{eight(n.Stamp), n.C.Name, eight(flag), n.C.Val} {
			all += two(len(s)) + s
		}
	}
	return all
}

// wantBlocks is a record's blocks, as the document's words say it.
func wantBlocks(s string) []string {
	n := len(s)
	head := s[:min(n, inHead)]
	heads := []string{two(n) + head + zeros(inHead-len(head))}
	for s = s[len(head):]; s != ""; {
		body := s[:min(len(s), inBody)]
		heads = append(heads, body+zeros(inBody-len(body)))
		s = s[len(body):]
	}
	var l []string
	for i, x := range heads {
		l = append(l, x+two(len(heads)-1-i)+string([]byte{byte(min(i+1, 2)), 165}))
	}
	return l
}

// blocksOf is the blocks of records of notes.
func blocksOf(records ...[]api.Note) []string {
	var l []string
	for _, r := range records {
		l = append(l, wantBlocks(wantOctets(r))...)
	}
	return l
}

// wantError is the error of notes that are no record, as the document's words say it.
func wantError(l []api.Note) api.Errno {
	if len(l) == 0 || len(l) > mostNotes || slices.ContainsFunc(l, func(n api.Note) bool { return !change.May(n) }) {
		return api.ErrArg
	}
	if len(wantOctets(l)) > mostRecord {
		return api.ErrLarge
	}
	return api.OK
}

// wantRecords is what Records answers, as the document's words say it.
func wantRecords(d api.Device, z int) ([][]api.Note, api.Errno) {
	l, e := zone.Read(d, z)
	if e != api.OK {
		return nil, e
	}
	records, _, e := block.Scan(l)
	if e != api.OK {
		return nil, api.ErrBad
	}
	var all [][]api.Note
	for _, s := range records {
		r, e := change.Take(s)
		if e != api.OK {
			return nil, api.ErrBad
		}
		all = append(all, r)
	}
	return all, api.OK
}

// newDevice is a device with nothing on it, of as many open zones as there are.
func newDevice(t *testing.T, zones, size int) api.Device {
	t.Helper()
	d, e := zone.New(zones, size, zones)
	if e != api.OK {
		t.Fatalf("New: %d", e)
	}
	return d
}

// with is a device with blocks behind a zone's.
func with(t *testing.T, d api.Device, z int, blocks ...string) api.Device {
	t.Helper()
	d, e := zone.Append(d, z, strings.Join(blocks, ""))
	if e != api.OK {
		t.Fatalf("Append of %d blocks to zone %d: %d", len(blocks), z, e)
	}
	return d
}

// written is a device with records behind a zone's.
func written(t *testing.T, d api.Device, z int, records ...[]api.Note) api.Device {
	t.Helper()
	for _, l := range records {
		x, e := Write(d, z, l)
		if e != api.OK {
			t.Fatalf("Write of %d notes to zone %d: %d", len(l), z, e)
		}
		d = x
	}
	return d
}

// off is a device without power.
func off(d api.Device) api.Device {
	d.Off = true
	return d
}

// clone is a device in memory of its own.
func clone(d api.Device) api.Device {
	d.Zones = slices.Clone(d.Zones)
	for z := range d.Zones {
		d.Zones[z].Blocks = slices.Clone(d.Zones[z].Blocks)
	}
	return d
}

// same says whether devices are the same.
func same(a, b api.Device) bool {
	alike := func(x, y api.Zone) bool {
		return slices.Equal(x.Blocks, y.Blocks) && x.Firm == y.Firm && x.Full == y.Full
	}
	return slices.EqualFunc(a.Zones, b.Zones, alike) && a.Size == b.Size && a.MaxOpen == b.MaxOpen && a.Fuel == b.Fuel && a.Off == b.Off && a.Bad == b.Bad
}

// alike says whether records are the same.
func alike(a, b [][]api.Note) bool { return slices.EqualFunc(a, b, slices.Equal[[]api.Note]) }

// brief is the beginning of how a value is told.
func brief(x any) string { return fmt.Sprintf("%.300s", fmt.Sprintf("%q", fmt.Sprint(x))) }

// checkZone holds what Records and Notes answer against what is wanted, and what was handed in against what it was.
func checkZone(t *testing.T, d api.Device, z int, want [][]api.Note, wantE api.Errno) {
	t.Helper()
	was := clone(d)
	if got, e := Records(d, z); !alike(got, want) || e != wantE {
		t.Errorf("Records of zone %d: %s, %d, want %s, %d", z, brief(got), e, brief(want), wantE)
	}
	if got, e := Notes(d, z); !slices.Equal(got, slices.Concat(want...)) || e != wantE {
		t.Errorf("Notes of zone %d: %s, %d, want those of %s, %d", z, brief(got), e, brief(want), wantE)
	}
	if !same(d, was) {
		t.Errorf("Records or Notes of zone %d changed what was handed in", z)
	}
}

// checkAll holds what All answers against what is wanted, and what was handed in against what it was.
func checkAll(t *testing.T, d api.Device, want [][]api.Note, wantE api.Errno) {
	t.Helper()
	was := clone(d)
	if got, e := All(d); !alike(got, want) || e != wantE {
		t.Errorf("All: %s, %d, want %s, %d", brief(got), e, brief(want), wantE)
	}
	if !same(d, was) {
		t.Error("All changed what was handed in")
	}
}

// checkDevice holds all that a device tells against the document's words.
func checkDevice(t *testing.T, d api.Device) api.Errno {
	t.Helper()
	var all [][]api.Note
	first := api.OK
	for z := range d.Zones {
		want, e := wantRecords(d, z)
		checkZone(t, d, z, want, e)
		if first == api.OK {
			first = e
		}
		all = append(all, slices.Concat(want...))
	}
	if first != api.OK {
		all = nil
	}
	checkAll(t, d, all, first)
	return first
}

// checkWrite holds what Write answers against what is wanted, and what was handed in against what it was.
func checkWrite(t *testing.T, what string, d api.Device, z int, l []api.Note, want api.Device, wantE api.Errno) {
	t.Helper()
	wasD, wasL := clone(d), slices.Clone(l)
	if got, e := Write(d, z, l); !same(got, want) || e != wantE {
		t.Errorf("Write of %s: %s, %d, want %s, %d", what, brief(got), e, brief(want), wantE)
	}
	if !same(d, wasD) || !slices.Equal(l, wasL) {
		t.Errorf("Write of %s changed what was handed in", what)
	}
}

// chances is numbers below n, that hang on a seed alone.
func chances(seed uint32) func(n int) int {
	return func(n int) int {
		seed = seed*1664525 + 1013904223
		return int(seed >> 8 % uint32(n))
	}
}

// noRecords is notes that are no record, and their errors.
func noRecords() map[string]struct {
	l []api.Note
	e api.Errno
} {
	large := strings.Repeat("v", 4000)
	return map[string]struct {
		l []api.Note
		e api.Errno
	}{
		"none":                     {nil, api.ErrArg},
		"an empty list":            {[]api.Note{}, api.ErrArg},
		"101 notes":                {many(101), api.ErrArg},
		"a note by 0":              {[]api.Note{is(0, "a", "b")}, api.ErrArg},
		"an empty note":            {[]api.Note{{}}, api.ErrArg},
		"a last note without name": {append(many(3), is(1, "", "b")), api.ErrArg},
		"a name of 201":            {[]api.Note{is(1, strings.Repeat("n", 201), "")}, api.ErrArg},
		"octets of 4001":           {[]api.Note{is(1, "a", large+"v")}, api.ErrArg},
		"octets of what is Gone":   {[]api.Note{{Stamp: 1, C: api.Change{Name: "a", Val: "b", Gone: true}}}, api.ErrArg},
		"12001 octets":             {long(12001), api.ErrLarge},
		"12060 octets":             {long(12060), api.ErrLarge},
		"three of 4000":            {[]api.Note{is(1, "a", large), is(2, "a", large), is(3, "a", large)}, api.ErrLarge},
		"too large, and a bad one": {append(long(12001), is(0, "a", "")), api.ErrArg},
		"101 notes, too large":     {append(long(12001), many(98)...), api.ErrArg},
	}
}

// TestRoomByHand: P15.1, the edges of a record, and of its blocks.
func TestRoomByHand(t *testing.T) {
	for _, c := range []struct {
		l    []api.Note
		want int
	}{
		{[]api.Note{is(1, "a", "")}, 1}, {[]api.Note{gone(1, "a")}, 1}, {[]api.Note{is(math.MaxUint64, "a", "x")}, 1}, {of(57), 1}, {of(58), 1}, {of(59), 2}, {of(118), 2}, {of(119), 3}, {of(178), 3}, {of(179), 4},
		{[]api.Note{is(1, "a", ""), gone(1, "b")}, 1}, {[]api.Note{is(1, "a", "xxxxxxxx"), gone(1, "b")}, 2}, {[]api.Note{is(1, "a", strings.Repeat("v", 4000))}, 68}, {many(100), 47}, {long(11938), 199}, {long(11939), 200}, {long(11998), 200}, {long(11999), 201}, {long(12000), 201},
	} {
		if got, e := Room(c.l); got != c.want || e != api.OK || c.want != len(blocksOf(c.l)) {
			t.Errorf("Room of %s: %d, %d, want %d, laid %d", brief(c.l), got, e, c.want, len(blocksOf(c.l)))
		}
	}
}

// TestRoomOfNoRecord: P15.1, layer 12's errors, and no blocks beside them.
func TestRoomOfNoRecord(t *testing.T) {
	for what, c := range noRecords() {
		if got, e := Room(c.l); got != 0 || e != c.e || e != wantError(c.l) {
			t.Errorf("Room of %s: %d, %d, want %d", what, got, e, c.e)
		}
	}
}

// TestWriteByHand: P15.2, a record's blocks, octet by octet.
func TestWriteByHand(t *testing.T) {
	d := newDevice(t, 2, 4)
	d, e := Write(d, 1, []api.Note{is(258, "ab", "cde")})
	one := "\x1f\x00" + "\x04\x00" + "\x08\x00\x02\x01\x00\x00\x00\x00\x00\x00" + "\x02\x00ab" + "\x08\x00\x00\x00\x00\x00\x00\x00\x00\x00" + "\x03\x00cde" + zeros(27) + "\x00\x00\x01\xa5"
	if e != api.OK || len(d.Zones[0].Blocks) != 0 || !slices.Equal(d.Zones[1].Blocks, []string{one}) || d.Zones[1].Firm != 0 || d.Zones[1].Full {
		t.Errorf("Write of one block: %s, %d", brief(d), e)
	}
	d, e = Write(d, 1, []api.Note{gone(1, "x"), is(2, "y", "zz")})
	two := "\x36\x00" + "\x08\x00" + "\x08\x00\x01\x00\x00\x00\x00\x00\x00\x00" + "\x01\x00x" + "\x08\x00\x01\x00\x00\x00\x00\x00\x00\x00" + "\x00\x00" +
		"\x08\x00\x02\x00\x00\x00\x00\x00\x00\x00" + "\x01\x00y" + "\x08\x00\x00\x00\x00\x00\x00\x00\x00\x00" + "\x02\x00zz" + zeros(4) + "\x00\x00\x01\xa5"
	if e != api.OK || !slices.Equal(d.Zones[1].Blocks, []string{one, two}) || d.Zones[1].Full {
		t.Errorf("Write of a second one: %s, %d", brief(d), e)
	}
	d, e = Write(d, 1, of(59))
	if e != api.OK || !slices.Equal(d.Zones[1].Blocks, append([]string{one, two}, blocksOf(of(59))...)) || len(d.Zones[1].Blocks) != 4 || !d.Zones[1].Full || d.Zones[1].Firm != 0 || d.Bad != 0 {
		t.Errorf("Write that fills the zone: %s, %d", brief(d), e)
	}
}

// TestWriteIsAppend: P15.2, layer 13's Append of its blocks, whatever it answers.
func TestWriteIsAppend(t *testing.T) {
	empty := newDevice(t, 3, 5)
	held := written(t, empty, 0, of(59), of(58))
	full := written(t, held, 0, of(118))
	lonely := clone(held)
	lonely.MaxOpen = 1
	bad := clone(held)
	bad.Bad = 41
	for what, d := range map[string]api.Device{"empty": empty, "held": held, "full": full, "lonely": lonely, "bad": bad, "off": off(held), "off and full": off(full)} {
		for _, l := range [][]api.Note{of(40), of(59), of(119), of(179), of(239), of(299), long(12000)} {
			for z := -1; z <= 3; z++ {
				want, e := zone.Append(d, z, strings.Join(blocksOf(l), ""))
				checkWrite(t, fmt.Sprint(len(blocksOf(l)), " blocks to ", what, ", zone ", z), d, z, l, want, e)
			}
		}
	}
}

// TestWriteErrors: P15.2, each error of layer 13, with the device, but ErrArg.
func TestWriteErrors(t *testing.T) {
	d := written(t, newDevice(t, 3, 4), 0, of(59), of(58))
	refused := clone(d)
	refused.Bad = 1
	for _, z := range []int{-1, 3, 4, math.MaxInt, math.MinInt} {
		checkWrite(t, "a zone that there is not", d, z, of(58), refused, api.ErrRange)
		checkWrite(t, "a zone that there is not, without power", off(d), z, of(58), off(refused), api.ErrRange)
	}
	checkWrite(t, "two blocks where one has room", d, 0, of(59), refused, api.ErrState)
	checkWrite(t, "more blocks than a zone has", d, 1, long(12000), refused, api.ErrState)
	d.MaxOpen, refused.MaxOpen = 1, 1
	checkWrite(t, "a second open zone", d, 1, of(58), refused, api.ErrState)
	checkWrite(t, "a device without power", off(d), 0, of(58), off(d), api.ErrPower)
	full := written(t, d, 0, of(58))
	refused = clone(full)
	refused.Bad = 1
	checkWrite(t, "a Full zone", full, 0, of(58), refused, api.ErrState)
	small := d
	small.Size = 2
	for what, no := range map[string]api.Device{"the zero device": {}, "a zone with too many blocks": small, "no zones": {Size: 4, MaxOpen: 1, Fuel: -1}} {
		checkWrite(t, what, no, 0, of(58), api.Device{}, api.ErrArg)
		checkWrite(t, what+", no zone", no, 9, of(58), api.Device{}, api.ErrArg)
	}
}

// TestWriteNoRecord: P15.2, layer 12's errors ahead of layer 13's, and all else zero.
func TestWriteNoRecord(t *testing.T) {
	d := written(t, newDevice(t, 2, 3), 0, of(59), of(58))
	for what, c := range noRecords() {
		for _, on := range []api.Device{d, off(d), {}} {
			for _, z := range []int{0, 1, -1, 2} {
				checkWrite(t, what, on, z, c.l, api.Device{}, c.e)
			}
		}
	}
}

// TestPowerFails: P15.2 and P15.4, the power fails within a record: those of its blocks ahead are there, and behind a crash the record is not.
func TestPowerFails(t *testing.T) {
	for fuel := range 5 {
		d := written(t, newDevice(t, 1, 9), 0, of(59), of(58))
		d, _ = zone.Fuel(d, fuel)
		want := clone(d)
		want.Zones[0].Blocks = append(want.Zones[0].Blocks, blocksOf(of(230))[:min(fuel, 4)]...)
		want.Fuel, want.Off = 0, fuel < 4
		e := api.OK
		if want.Off {
			e = api.ErrPower
		}
		checkWrite(t, fmt.Sprint("fuel ", fuel), d, 0, of(230), want, e)
		d, _ = Write(d, 0, of(230))
		if fuel < 4 {
			checkZone(t, d, 0, nil, api.ErrPower)
		}
		records := [][]api.Note{of(59), of(58)}
		if fuel == 4 {
			records = append(records, of(230))
		}
		checkZone(t, zone.Crash(d, api.Loss{Keep: []int{99}}), 0, records, api.OK)
	}
}

// TestRecordsByHand: P15.3 and P15.4, records of a zone in order, also like ones, with all that notes may be.
func TestRecordsByHand(t *testing.T) {
	records := [][]api.Note{
		{is(1, "a", "x")}, {is(1, "a", "x")}, {gone(2, "a"), is(2, "b", ""), is(1, "b", "\x00\xff\xa5")}, {is(math.MaxUint64, strings.Repeat("\x00", 200), strings.Repeat("\xa5", 4000))}, many(100),
		{is(5, "a", "x"), is(5, "a", "x")}, of(58), of(59), of(118), of(119), {is(1, "a", "x")},
	}
	d := newDevice(t, 3, 300)
	checkZone(t, d, 1, nil, api.OK)
	for i, l := range records {
		d = written(t, d, 1, l)
		checkZone(t, d, 1, records[:i+1], api.OK)
		checkZone(t, d, 0, nil, api.OK)
		checkAll(t, d, [][]api.Note{nil, slices.Concat(records[:i+1]...), nil}, api.OK)
	}
	if !slices.Equal(d.Zones[1].Blocks, blocksOf(records...)) {
		t.Error("the blocks are not those of the records")
	}
	d, _ = zone.Finish(d, 1)
	checkZone(t, d, 1, records, api.OK)
	d, _ = zone.Reset(d, 1)
	checkZone(t, d, 1, nil, api.OK)
	d = written(t, d, 1, long(12000))
	checkZone(t, d, 1, [][]api.Note{long(12000)}, api.OK)
}

// TestManyRecords: P15.3, as many records as a zone can have, in order, time and again.
func TestManyRecords(t *testing.T) {
	d := newDevice(t, 1, 300)
	var records [][]api.Note
	for i := range 300 {
		l := []api.Note{is(uint64(300-i), fmt.Sprint(i), "")}
		records, d = append(records, l), with(t, d, 0, blocksOf(l)...)
	}
	for range 50 {
		checkZone(t, d, 0, records, api.OK)
	}
	checkAll(t, d, [][]api.Note{slices.Concat(records...)}, api.OK)
	d.Zones[0].Blocks[299] = strings.Repeat("\xa5", octets)
	checkZone(t, d, 0, nil, api.ErrBad)
}

// TestTail: P15.3 and P15.4, a tail is passed over: no blocks of it are records.
func TestTail(t *testing.T) {
	last := blocksOf(of(230))
	torn := last[1][:5] + zeros(octets-5)
	for _, tail := range [][]string{last[:1], last[:2], last[:3], {zeros(octets)}, {last[0], torn}, {last[0], last[1], torn}, {last[0], last[1], last[2], torn}} {
		for _, records := range [][][]api.Note{nil, {of(58)}, {of(59), of(119), of(40)}} {
			d := with(t, newDevice(t, 2, 20), 1, append(blocksOf(records...), tail...)...)
			checkZone(t, d, 1, records, api.OK)
			checkAll(t, d, [][]api.Note{nil, slices.Concat(records...)}, api.OK)
		}
	}
}

// noNotes is records that are none of notes.
func noNotes() []string {
	good := wantOctets(of(40))
	odd := wantOctets([]api.Note{is(1, "a", "x")})
	return []string{
		"", "x", "abc", zeros(1), zeros(2), zeros(58), strings.Repeat("\xa5", 300), good[:39], good + "\x00", good + good, wantOctets(nil), wantOctets(many(101)), two(3) + odd[2:len(odd)-3], two(5) + odd[2:] + two(0),
		wantOctets([]api.Note{is(0, "a", "x")}), wantOctets([]api.Note{is(1, "", "x")}), wantOctets([]api.Note{is(1, strings.Repeat("n", 201), "")}), wantOctets([]api.Note{{Stamp: 1, C: api.Change{Name: "a", Val: "x", Gone: true}}}),
		strings.Replace(wantOctets([]api.Note{gone(1, "a")}), eight(1)+two(0), eight(2)+two(0), 1), two(4) + two(7) + zeros(6) + "\x01" + odd[12:],
	}
}

// TestNoNotes: P15.3, ErrBad, wherever a record stands that is none of notes, and nothing beside it.
func TestNoNotes(t *testing.T) {
	good := [][]api.Note{of(58), of(59), many(3)}
	tail := blocksOf(of(230))[:2]
	for _, s := range noNotes() {
		for at := range len(good) + 1 {
			l := slices.Concat(blocksOf(good[:at]...), wantBlocks(s), blocksOf(good[at:]...))
			for _, blocks := range [][]string{l, slices.Concat(l, wantBlocks(s)), slices.Concat(l, tail)} {
				d := with(t, newDevice(t, 3, 300), 1, blocks...)
				checkZone(t, d, 1, nil, api.ErrBad)
				checkZone(t, d, 0, nil, api.OK)
				checkAll(t, d, nil, api.ErrBad)
			}
		}
	}
}

// TestNotScanned: P15.3, ErrBad for blocks that are not scanned, and nothing beside it.
func TestNotScanned(t *testing.T) {
	good, last := [][]api.Note{of(58), of(59)}, blocksOf(of(230))
	for _, no := range [][]string{{strings.Repeat("\xa5", octets)}, {zeros(octets), zeros(octets)}, last[1:], last[2:3], {last[0], last[2]}, {last[1], last[0]}, {last[0], zeros(octets), last[2]}, {zeros(60) + two(0) + "\x01\xa5", last[0], last[1]}} {
		for at := range len(good) + 1 {
			d := with(t, newDevice(t, 3, 60), 2, slices.Concat(blocksOf(good[:at]...), no, blocksOf(good[at:]...))...)
			checkZone(t, d, 2, nil, api.ErrBad)
			checkZone(t, d, 1, nil, api.OK)
			checkAll(t, d, nil, api.ErrBad)
		}
	}
}

// TestReadErrors: P15.3, layer 13's errors of Read, in its order, and ahead of ErrBad.
func TestReadErrors(t *testing.T) {
	good := written(t, newDevice(t, 2, 9), 0, of(58), of(59))
	spoilt := with(t, good, 1, strings.Repeat("\xa5", octets))
	for _, d := range []api.Device{good, spoilt, off(good), off(spoilt)} {
		for _, z := range []int{-1, 2, 3, math.MaxInt, math.MinInt} {
			checkZone(t, d, z, nil, api.ErrRange)
		}
	}
	for z := range 2 {
		checkZone(t, off(good), z, nil, api.ErrPower)
		checkZone(t, off(spoilt), z, nil, api.ErrPower)
	}
	checkAll(t, off(good), nil, api.ErrPower)
	checkAll(t, off(spoilt), nil, api.ErrPower)
	empty := clone(good)
	empty.Fuel = 0
	if e := checkDevice(t, empty); e != api.OK {
		t.Errorf("without fuel, as reading burns none: %d", e)
	}
	short, firm, unfilled := clone(spoilt), clone(good), clone(good)
	short.Zones[1].Blocks[0] = "x"
	firm.Zones[1].Firm = 1
	unfilled.Zones[1].Full = true
	for _, d := range []api.Device{{}, off(api.Device{}), {Size: 9, MaxOpen: 1, Fuel: -1}, {Zones: make([]api.Zone, 41), Size: 9, MaxOpen: 1, Fuel: -1}, short, firm, unfilled, off(short)} {
		for _, z := range []int{-1, 0, 1, 2, 40, 41, math.MaxInt, math.MinInt} {
			checkZone(t, d, z, nil, api.ErrArg)
		}
		checkAll(t, d, nil, api.ErrArg)
	}
}

// TestAll: P15.3, each zone's notes at its place, of as many zones as there may be, and the error of one of them, wherever it is.
func TestAll(t *testing.T) {
	d := newDevice(t, 40, 5)
	var want [][]api.Note
	for z := range 40 {
		var l []api.Note
		for i := range z % 4 {
			r := []api.Note{is(uint64(z+1), fmt.Sprint(z), fmt.Sprint(i)), gone(uint64(i+1), "g")}
			d, l = written(t, d, z, r), append(l, r...)
		}
		want = append(want, l)
	}
	checkAll(t, d, want, api.OK)
	for z := range 40 {
		bad := clone(d)
		bad.Zones[z].Blocks = append([]string{strings.Repeat("\xa5", octets)}, bad.Zones[z].Blocks...)
		bad.Zones[z].Full = len(bad.Zones[z].Blocks) == 5
		checkAll(t, bad, nil, api.ErrBad)
		checkZone(t, bad, z, nil, api.ErrBad)
	}
}

// TestCrash: P15.4, each way in which a crash cuts records off: those are read whose blocks are all there, and no others.
func TestCrash(t *testing.T) {
	records := [][]api.Note{of(58), of(119), many(3), of(59)}
	blocks := len(blocksOf(records...))
	for firm := range len(records) + 1 {
		d := written(t, newDevice(t, 2, 20), 1, records[:firm]...)
		d, _ = zone.Flush(d)
		d = written(t, d, 1, records[firm:]...)
		sure := len(blocksOf(records[:firm]...))
		for keep := range blocks - sure + 2 {
			for _, cut := range []int{0, 1, 2, 30, 60, 63, 64} {
				there := min(sure+keep, blocks)
				if cut == octets {
					// A torn block that has all its octets is whole.
					there = min(there+1, blocks)
				}
				n := 0
				for n < len(records) && len(blocksOf(records[:n+1]...)) <= there {
					n++
				}
				c := zone.Crash(d, api.Loss{Keep: []int{0, keep}, Zone: 1, Cut: cut})
				checkZone(t, c, 1, records[:n], api.OK)
				checkAll(t, c, [][]api.Note{nil, slices.Concat(records[:n]...)}, api.OK)
			}
		}
	}
}

// chanceRecord is a record by chance.
func chanceRecord(chance func(n int) int) []api.Note {
	var l []api.Note
	for range 1 + chance(3) {
		n := is(uint64(1+chance(9)), fmt.Sprint("n", chance(5)), strings.Repeat("v", chance(100)))
		if chance(3) == 0 {
			n = gone(n.Stamp, n.C.Name)
		}
		l = append(l, n)
	}
	return l
}

// TestCommandsByChance: P15.2 to P15.4, what is written, flushed, reset, and crashed, zone by zone.
func TestCommandsByChance(t *testing.T) {
	chance := chances(15)
	told := map[api.Errno]int{}
	for range 300 {
		d := newDevice(t, 1+chance(3), 1+chance(30))
		d.MaxOpen = 1 + chance(2)
		there := make([][][]api.Note, len(d.Zones))
		for range 30 {
			z, l := chance(len(d.Zones)), chanceRecord(chance)
			switch chance(12) {
			case 0:
				d, _ = zone.Flush(d)
			case 1:
				d, _ = zone.Finish(d, z)
			case 2:
				d, _ = zone.Reset(d, z)
				if len(d.Zones[z].Blocks) == 0 {
					there[z] = nil
				}
			case 3:
				// What of the last records is there a crash says: these or those ahead of them, never a part of one.
				d = zone.Crash(d, api.Loss{Keep: []int{chance(9), chance(9), chance(9)}, Zone: z, Cut: chance(70)})
				for z := range there {
					got, e := Records(d, z)
					if e != api.OK || len(got) > len(there[z]) {
						t.Fatalf("Records behind a crash: %s, %d", brief(got), e)
					}
					for n := range there[z] {
						if isThere := len(blocksOf(there[z][:n+1]...)) <= len(d.Zones[z].Blocks); isThere && slices.Equal(d.Zones[z].Blocks[:len(blocksOf(there[z][:n+1]...))], blocksOf(there[z][:n+1]...)) != (n < len(got)) {
							t.Fatalf("Records behind a crash: %d of them", len(got))
						}
					}
					there[z] = there[z][:len(got)]
				}
			default:
				want, wantE := zone.Append(d, z, strings.Join(blocksOf(l), ""))
				checkWrite(t, "what is by chance", d, z, l, want, wantE)
				x, e := Write(d, z, l)
				if told[e]++; e == api.OK {
					there[z] = append(there[z], l)
				}
				d = x
			}
			var all [][]api.Note
			for z, l := range there {
				checkZone(t, d, z, l, api.OK)
				all = append(all, slices.Concat(l...))
			}
			checkAll(t, d, all, api.OK)
		}
	}
	if told[api.OK] < 1000 || told[api.ErrState] < 1000 {
		t.Errorf("%v are few", told)
	}
}

// TestSpoiltByChance: P15.3, whatever is in the blocks, and whatever a device is.
func TestSpoiltByChance(t *testing.T) {
	chance := chances(3)
	told := map[api.Errno]int{}
	for range 3000 {
		d := newDevice(t, 1+chance(3), 25)
		for z := range d.Zones {
			var l []string
			for range chance(4) {
				l = append(l, blocksOf(chanceRecord(chance))...)
			}
			if chance(9) == 0 {
				s := []byte(wantOctets(chanceRecord(chance)))
				s[chance(len(s))] ^= byte(1 + chance(255))
				l = append(l, wantBlocks(string(s))...)
			}
			if len(l) > 0 && chance(4) == 0 {
				i, at := chance(len(l)), chance(octets)
				l[i] = l[i][:at] + string([]byte{byte(chance(256))}) + l[i][at+1:]
			}
			if l = l[:min(len(l), 25)]; chance(9) == 0 {
				l = l[:chance(len(l)+1)]
			}
			if len(l) > 0 {
				d = with(t, d, z, l...)
			}
		}
		d.Off = chance(20) == 0
		if chance(20) == 0 {
			d.Zones[chance(len(d.Zones))].Firm = 26
		}
		told[checkDevice(t, d)]++
	}
	for _, e := range []api.Errno{api.OK, api.ErrArg, api.ErrBad, api.ErrPower} {
		if told[e] < 50 {
			t.Errorf("%d of %d are few", told[e], e)
		}
	}
}

// TestJoined: when a call answers, no goroutine of it is left, also where a record far ahead is none of notes.
func TestJoined(t *testing.T) {
	good := newDevice(t, 2, 300)
	for range 100 {
		good = with(t, good, 0, blocksOf([]api.Note{is(1, "a", "")})...)
	}
	bad := clone(good)
	bad.Zones[0].Blocks[0] = wantBlocks("abc")[0]
	was := runtime.NumGoroutine()
	for range 300 {
		Records(good, 0)
		Notes(bad, 0)
		All(good)
		All(bad)
	}
	for range 1000 {
		if runtime.NumGoroutine() <= was {
			return
		}
		time.Sleep(time.Millisecond)
	}
	t.Errorf("%d goroutines, ahead of the calls %d", runtime.NumGoroutine(), was)
}

// TestAtOnce: what is answered hangs on no order of goroutines.
func TestAtOnce(t *testing.T) {
	records := [][]api.Note{of(58), many(9), of(59), {gone(1, "g")}}
	good := written(t, newDevice(t, 2, 30), 1, records...)
	bad := with(t, good, 0, append(blocksOf(of(58)), wantBlocks("abc")...)...)
	var all sync.WaitGroup
	for range 8 {
		all.Go(func() {
			for range 50 {
				checkZone(t, good, 1, records, api.OK)
				checkAll(t, good, [][]api.Note{nil, slices.Concat(records...)}, api.OK)
				checkAll(t, bad, nil, api.ErrBad)
			}
		})
	}
	all.Wait()
}

// TestNewMemory: what is answered shares nothing with what was handed in, or with another list of it.
func TestNewMemory(t *testing.T) {
	records := [][]api.Note{many(3), of(59), many(2)}
	d := written(t, newDevice(t, 2, 30), 1, records...)
	d = written(t, d, 0, of(58), of(40))
	was := clone(d)
	for range 2 {
		x, _ := Write(d, 1, many(1))
		for z := range x.Zones {
			for i := range x.Zones[z].Blocks {
				x.Zones[z].Blocks[i] = "scribble"
			}
			x.Zones[z] = api.Zone{}
		}
		r, _ := Records(d, 1)
		n, _ := Notes(d, 1)
		all, _ := All(d)
		for _, l := range append(append(slices.Clone(r), n), all...) {
			if got := slices.Clone(l); len(got) == 0 {
				t.Error("a list without notes")
			}
			for i := range l[:cap(l)] {
				l[:cap(l)][i] = is(9, "scribble", "")
			}
			if count := scribbled(append(append(slices.Clone(r), n), all...)); count != len(l) {
				t.Errorf("%d notes are scribbled, of %d", count, len(l))
			}
			clear(l)
		}
		if !same(d, was) {
			t.Error("what was handed in is another one")
		}
		checkZone(t, d, 1, records, api.OK)
		checkAll(t, d, [][]api.Note{append(of(58), of(40)...), slices.Concat(records...)}, api.OK)
	}
}

// scribbled is how many notes are scribbled on.
func scribbled(l [][]api.Note) int {
	count := 0
	for _, r := range l {
		for _, n := range r {
			if reflect.DeepEqual(n, is(9, "scribble", "")) {
				count++
			}
		}
	}
	return count
}

// TestExamples: the chapter's examples.
func TestExamples(t *testing.T) {
	d, note := newDevice(t, 4, 9), is(1, "a", "x")
	checkAll(t, d, make([][]api.Note, 4), api.OK)
	if n, e := Room([]api.Note{note}); n != 1 || e != api.OK {
		t.Errorf("Room of a note: %d, %d", n, e)
	}
	d, e := Write(d, 0, []api.Note{note})
	if e != api.OK {
		t.Errorf("Write of a note: %d", e)
	}
	if l, e := Notes(d, 0); e != api.OK || len(l) != 1 || l[0] != note {
		t.Errorf("Notes of a note: %v, %d", l, e)
	}
}
