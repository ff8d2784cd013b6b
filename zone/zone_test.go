package zone

import (
	"fmt"
	"math"
	"slices"
	"strings"
	"testing"

	"cellarer/api"
)

// The document's limits, as numbers of their own.
const (
	octets    = 64  // of a block
	mostZones = 40  // of a device
	mostSize  = 300 // blocks of a zone
)

// fill is a block of one octet for each letter.
func fill(letters string) string {
	all := strings.Builder{}
	for i := range len(letters) {
		all.WriteString(strings.Repeat(letters[i:i+1], octets))
	}
	return all.String()
}

// zoneOf is a zone by a short text: a letter for each block, a dot behind those that are firm (none: none is firm), and at last !, if it is Full.
func zoneOf(text string) api.Zone {
	text, full := strings.CutSuffix(text, "!")
	firm := max(strings.Index(text, "."), 0)
	x := api.Zone{Firm: firm, Full: full}
	for _, c := range strings.ReplaceAll(text, ".", "") {
		x.Blocks = append(x.Blocks, fill(string(c)))
	}
	return x
}

// dev is a device of zones by their texts, with all the Fuel that there is.
func dev(size, open int, zones ...string) api.Device {
	d := api.Device{Size: size, MaxOpen: open, Fuel: -1}
	for _, text := range zones {
		d.Zones = append(d.Zones, zoneOf(text))
	}
	return d
}

// fueled is a device with so much Fuel.
func fueled(d api.Device, n int) api.Device {
	d.Fuel = n
	return d
}

// off is a device without power.
func off(d api.Device) api.Device {
	d.Off = true
	return d
}

// bad is a device that refused so many commands.
func bad(d api.Device, n int) api.Device {
	d.Bad = n
	return d
}

// clone is a device in memory of its own.
func clone(d api.Device) api.Device {
	d.Zones = slices.Clone(d.Zones)
	for i := range d.Zones {
		d.Zones[i].Blocks = slices.Clone(d.Zones[i].Blocks)
	}
	return d
}

// same: the same devices? A list that is nil is one without elements.
func same(a, b api.Device) bool {
	zones := slices.EqualFunc(a.Zones, b.Zones, func(x, y api.Zone) bool {
		return slices.Equal(x.Blocks, y.Blocks) && x.Firm == y.Firm && x.Full == y.Full
	})
	return zones && a.Size == b.Size && a.MaxOpen == b.MaxOpen && a.Fuel == b.Fuel && a.Off == b.Off && a.Bad == b.Bad
}

// tell is a device as a text, each block by its first octets, and how many of them there are.
func tell(d api.Device) string {
	all := strings.Builder{}
	fmt.Fprintf(&all, "size %d open %d fuel %d off %v bad %d:", d.Size, d.MaxOpen, d.Fuel, d.Off, d.Bad)
	for _, x := range d.Zones {
		fmt.Fprintf(&all, " [firm %d full %v:", x.Firm, x.Full)
		for _, block := range x.Blocks {
			if block == "" {
				all.WriteString(" empty")
				continue
			}
			n := len(block) - len(strings.TrimLeft(block, block[:1]))
			fmt.Fprintf(&all, " %q*%d/%d", block[:1], n, len(block))
		}
		all.WriteString("]")
	}
	return fmt.Sprintf("%.900s", all.String())
}

// check holds a command's answer against what is wanted.
func check(t *testing.T, what string, got api.Device, e api.Errno, want api.Device, wantE api.Errno) {
	t.Helper()
	if !same(got, want) || e != wantE {
		t.Errorf("%s: %s, %d, want %s, %d", what, tell(got), e, tell(want), wantE)
	}
}

// asked is a command of zone z of a device, and what it is to answer.
type asked struct {
	d    api.Device
	z    int
	want api.Device
	e    api.Errno
}

// checkEach holds what a command of a zone answers against what is wanted.
func checkEach(t *testing.T, name string, command func(d api.Device, z int) (api.Device, api.Errno), l []asked) {
	t.Helper()
	for i, c := range l {
		got, e := command(c.d, c.z)
		check(t, fmt.Sprintf("%d: %s(%s, %d)", i, name, tell(c.d), c.z), got, e, c.want, c.e)
	}
}

// chances is numbers below n, that hang on a seed alone.
func chances(seed uint32) func(n int) int {
	return func(n int) int {
		seed = seed*1664525 + 1013904223
		return int(seed >> 8 % uint32(n))
	}
}

// isOneOfOpen: is it open, as the document's words say it?
func isOneOfOpen(x api.Zone) bool { return len(x.Blocks) != 0 && !x.Full }

// wantMay says whether a device may be, as the document's words say it.
func wantMay(d api.Device) bool {
	if len(d.Zones) == 0 || len(d.Zones) > mostZones || d.Size <= 0 || d.Size > mostSize || d.MaxOpen <= 0 || d.Fuel < -1 || d.Bad < 0 {
		return false
	}
	open := 0
	for _, x := range d.Zones {
		n := len(x.Blocks)
		if n > d.Size || x.Firm < 0 || x.Firm > n || n == d.Size && !x.Full || n == 0 && x.Full {
			return false
		}
		if slices.ContainsFunc(x.Blocks, func(b string) bool { return len(b) != octets }) {
			return false
		}
		if isOneOfOpen(x) {
			open++
		}
	}
	return open <= d.MaxOpen
}

// wantBurn burns a device, as the document's words say it: is there power yet?
func wantBurn(d *api.Device) bool {
	if d.Off || d.Fuel == 0 {
		d.Off = true
		return false
	}
	if d.Fuel > 0 {
		d.Fuel--
	}
	return true
}

// wantRefuse is a device that refused, as the document's words say it.
func wantRefuse(d api.Device, e api.Errno) (api.Device, api.Errno) {
	d.Bad++
	if d.Bad < 0 {
		d.Bad = 0
	}
	return d, e
}

// wantAppend is what Append answers, as the document's words say it.
func wantAppend(d api.Device, z int, s string) (api.Device, api.Errno) {
	if !wantMay(d) || len(s) == 0 || len(s)%octets > 0 {
		return api.Device{}, api.ErrArg
	}
	d = clone(d)
	if z < 0 || z > len(d.Zones)-1 {
		return wantRefuse(d, api.ErrRange)
	}
	open := 0
	for _, x := range d.Zones {
		if isOneOfOpen(x) {
			open++
		}
	}
	x := &d.Zones[z]
	if x.Full || len(x.Blocks)+len(s)/octets > d.Size || len(x.Blocks) == 0 && open == d.MaxOpen {
		return wantRefuse(d, api.ErrState)
	}
	for ; s != ""; s = s[octets:] {
		if !wantBurn(&d) {
			return d, api.ErrPower
		}
		x.Blocks = append(x.Blocks, s[:octets])
		if len(x.Blocks) == d.Size {
			x.Full = true
		}
	}
	return d, api.OK
}

// wantFinish is what Finish answers, as the document's words say it.
func wantFinish(d api.Device, z int) (api.Device, api.Errno) {
	if !wantMay(d) {
		return api.Device{}, api.ErrArg
	}
	d = clone(d)
	if z < 0 || z > len(d.Zones)-1 {
		return wantRefuse(d, api.ErrRange)
	}
	if len(d.Zones[z].Blocks) == 0 || d.Zones[z].Full {
		return wantRefuse(d, api.ErrState)
	}
	if !wantBurn(&d) {
		return d, api.ErrPower
	}
	d.Zones[z].Full = true
	return d, api.OK
}

// wantReset is what Reset answers, as the document's words say it.
func wantReset(d api.Device, z int) (api.Device, api.Errno) {
	if !wantMay(d) {
		return api.Device{}, api.ErrArg
	}
	d = clone(d)
	if z < 0 || z > len(d.Zones)-1 {
		return wantRefuse(d, api.ErrRange)
	}
	if len(d.Zones[z].Blocks) == 0 {
		return wantRefuse(d, api.ErrState)
	}
	if !wantBurn(&d) {
		return d, api.ErrPower
	}
	d.Zones[z].Blocks, d.Zones[z].Firm, d.Zones[z].Full = nil, 0, false
	return d, api.OK
}

// wantFlush is what Flush answers, as the document's words say it.
func wantFlush(d api.Device) (api.Device, api.Errno) {
	if !wantMay(d) {
		return api.Device{}, api.ErrArg
	}
	d = clone(d)
	if !wantBurn(&d) {
		return d, api.ErrPower
	}
	for i, x := range d.Zones {
		d.Zones[i].Firm = len(x.Blocks)
	}
	return d, api.OK
}

// wantCrash is what Crash answers, as the document's words say it, block by block.
func wantCrash(d api.Device, l api.Loss) api.Device {
	if !wantMay(d) {
		return api.Device{}
	}
	c := api.Device{Size: d.Size, MaxOpen: d.MaxOpen, Fuel: -1, Bad: d.Bad}
	for z, x := range d.Zones {
		keep := 0
		if z < len(l.Keep) {
			keep = l.Keep[z]
		}
		var left []string
		for i, block := range x.Blocks {
			if i < x.Firm {
				left = append(left, block)
			} else if keep > 0 {
				keep--
				left = append(left, block)
			} else {
				if z == l.Zone && l.Cut >= octets {
					left = append(left, block)
				} else if z == l.Zone && l.Cut > 0 {
					left = append(left, block[:l.Cut]+strings.Repeat("\x00", octets-l.Cut))
				}
				break
			}
		}
		c.Zones = append(c.Zones, api.Zone{Blocks: left, Firm: len(left), Full: len(left) != 0})
	}
	return c
}

// chanceZone is a zone by chance, that may be, of so many blocks at the most.
func chanceZone(chance func(n int) int, size int) api.Zone {
	x := api.Zone{}
	n := chance(size + 1)
	if chance(3) == 0 {
		n = 0
	}
	for range n {
		x.Blocks = append(x.Blocks, fill(string(rune('a'+chance(26)))))
	}
	x.Firm = chance(n + 1)
	x.Full = n == size || n > 0 && chance(2) == 0
	return x
}

// chanceDevice is a small device by chance, that may be.
func chanceDevice(chance func(n int) int) api.Device {
	d := api.Device{Size: 1 + chance(5), Fuel: chance(8) - 1, Off: chance(6) == 0, Bad: []int{0, 1, 7, math.MaxInt - 1, math.MaxInt}[chance(5)]}
	if chance(2) == 0 {
		d.Fuel = -1
	}
	open := 0
	for range 1 + chance(4) {
		x := chanceZone(chance, d.Size)
		if isOneOfOpen(x) {
			open++
		}
		d.Zones = append(d.Zones, x)
	}
	d.MaxOpen = max(1, open+chance(2))
	return d
}

// spoilt is a device in which something is changed by chance; it may be yet, or not.
func spoilt(chance func(n int) int, d api.Device) api.Device {
	d = clone(d)
	x := &d.Zones[chance(len(d.Zones))]
	switch chance(9) {
	case 0:
		x.Firm += chance(5) - 2
	case 1:
		x.Full = !x.Full
	case 2:
		x.Blocks = append(x.Blocks, fill("z"))
	case 3:
		if len(x.Blocks) > 0 {
			i := chance(len(x.Blocks))
			x.Blocks[i] = []string{"", x.Blocks[i][1:], x.Blocks[i] + "z", fill("zz"), fill("z")}[chance(5)]
		}
	case 4:
		d.Size += chance(3) - 1
	case 5:
		d.MaxOpen += chance(3) - 1
	case 6:
		d.Fuel = []int{-1, -2, math.MinInt, math.MaxInt}[chance(4)]
	case 7:
		d.Bad = []int{-1, math.MinInt, 0}[chance(3)]
	case 8:
		x.Blocks = x.Blocks[:len(x.Blocks)/2]
	}
	return d
}

// mayAndMayNot is devices that may be, at the edges, and such as may not.
func mayAndMayNot() (may, mayNot []api.Device) {
	largest := api.Device{Size: mostSize, MaxOpen: 1, Fuel: -1}
	for range mostZones {
		largest.Zones = append(largest.Zones, zoneOf(strings.Repeat("a", mostSize)+"!"))
	}
	tooMany, tooLong := clone(largest), clone(largest)
	tooMany.Zones = append(tooMany.Zones, api.Zone{})
	tooLong.Zones[mostZones-1] = zoneOf(strings.Repeat("a", mostSize+1) + "!")
	block := func(s string) api.Device {
		d := dev(3, 1, "", "aa")
		d.Zones[1].Blocks[1] = s
		return d
	}
	firm := func(n int, text string) api.Device {
		d := dev(3, 2, "", text)
		d.Zones[1].Firm = n
		return d
	}
	may = []api.Device{
		dev(1, 1, ""), dev(mostSize, 1, ""), dev(3, math.MaxInt, "a", "b", "c"), dev(3, 1, make([]string, mostZones)...), largest,
		dev(3, 1, "", "aaa!"), dev(3, 1, "a!", "aa!"), dev(3, 1, "a.!", "aa.!", "aaa.!"), dev(3, 1, "a", "b!"), dev(3, 2, "a", "b"), dev(3, 2, "a", "", "b"), dev(3, 2, "a.", "b."),
		fueled(dev(3, 1, ""), 0), fueled(dev(3, 1, ""), math.MaxInt), off(dev(3, 1, "")), bad(dev(3, 1, ""), math.MaxInt),
		firm(0, "aa"), firm(1, "aa"), firm(2, "aa"), firm(0, ""), firm(3, "aaa!"), block(strings.Repeat("\x00", octets)),
	}
	mayNot = []api.Device{
		{}, dev(3, 1), dev(0, 1, ""), dev(-1, 1, ""), dev(math.MinInt, 1, ""), dev(mostSize+1, 1, ""), dev(math.MaxInt, 1, ""), tooMany, tooLong, dev(3, 1, make([]string, mostZones+1)...),
		dev(3, 0, ""), dev(3, -1, ""), dev(3, math.MinInt, ""), fueled(dev(3, 1, ""), -2), fueled(dev(3, 1, ""), math.MinInt), bad(dev(3, 1, ""), -1), bad(dev(3, 1, ""), math.MinInt),
		dev(3, 1, "", "aaaa!"), dev(3, 1, "", "aaaa"), dev(3, 1, "", "aaa"), dev(3, 1, "", "aaa."), dev(1, 1, "a"), dev(3, 1, "", "!"), dev(3, 1, "!"),
		firm(-1, "aa"), firm(3, "aa"), firm(1, ""), firm(-1, ""), firm(4, "aaa!"), firm(math.MinInt, "aa"), firm(math.MaxInt, "aa"),
		block(""), block("a"), block(strings.Repeat("a", octets-1)), block(strings.Repeat("a", octets+1)), block(fill("aa")),
		dev(3, 1, "a", "b"), dev(3, 1, "a", "", "b."), dev(3, 2, "a", "b", "c"), dev(3, 2, "a", "b!", "c", "aaa!", "d"),
	}
	return may, mayNot
}

// TestMay: P13.1, each word of it, and the edges.
func TestMay(t *testing.T) {
	may, mayNot := mayAndMayNot()
	for i, d := range may {
		if !May(d) || !wantMay(d) {
			t.Errorf("%d: May(%s): false", i, tell(d))
		}
	}
	for i, d := range mayNot {
		if May(d) || wantMay(d) {
			t.Errorf("%d: May(%s): true", i, tell(d))
		}
	}
}

// TestMayByChance: P13.1, devices in which something is changed.
func TestMayByChance(t *testing.T) {
	chance := chances(1)
	count := [2]int{}
	for range 30000 {
		d := spoilt(chance, chanceDevice(chance))
		if May(d) != wantMay(d) {
			t.Fatalf("May(%s): %v", tell(d), May(d))
		}
		if May(d) {
			count[1]++
		} else {
			count[0]++
		}
	}
	if count[0] < 3000 || count[1] < 3000 {
		t.Errorf("%d may not be, %d may", count[0], count[1])
	}
}

// TestNew: P13.1, ErrArg, if there is none that may be; else zones that are empty, Fuel -1, Bad 0.
func TestNew(t *testing.T) {
	numbers := []int{math.MinInt, -mostSize, -1, 0, 1, 2, mostZones - 1, mostZones, mostZones + 1, mostSize - 1, mostSize, mostSize + 1, 1 << 31, 1 << 40, math.MaxInt}
	for _, zones := range numbers {
		for _, size := range numbers {
			for _, open := range numbers {
				want, wantE := api.Device{}, api.ErrArg
				if 1 <= zones && zones <= 40 && 1 <= size && size <= 300 && 1 <= open {
					want, wantE = api.Device{Zones: make([]api.Zone, zones), Size: size, MaxOpen: open, Fuel: -1}, api.OK
				}
				d, e := New(zones, size, open)
				check(t, fmt.Sprintf("New(%d, %d, %d)", zones, size, open), d, e, want, wantE)
				if May(d) != (e == api.OK) {
					t.Errorf("New(%d, %d, %d) may be: %v", zones, size, open, May(d))
				}
			}
		}
	}
}

// TestMayNotBe: P13.1, of a device that may not be all others answer ErrArg, and zero (Crash the zero device), whatever else they are asked.
func TestMayNotBe(t *testing.T) {
	_, mayNot := mayAndMayNot()
	for i, d := range mayNot {
		for _, z := range []int{math.MinInt, -1, 0, 1, mostZones + 1, math.MaxInt} {
			what := fmt.Sprintf("of the %d-th that may not be, zone %d", i, z)
			for _, s := range []string{"", "a", fill("x"), fill("xy")} {
				x, e := Append(d, z, s)
				check(t, what+", Append", x, e, api.Device{}, api.ErrArg)
				x, e = Append(off(d), z, s)
				check(t, what+", Append without power", x, e, api.Device{}, api.ErrArg)
			}
			x, e := Finish(d, z)
			check(t, what+", Finish", x, e, api.Device{}, api.ErrArg)
			x, e = Reset(d, z)
			check(t, what+", Reset", x, e, api.Device{}, api.ErrArg)
			if l, e := Read(d, z); len(l) != 0 || e != api.ErrArg {
				t.Errorf("%s, Read: %d blocks, %d", what, len(l), e)
			}
			if l, e := Read(off(d), z); len(l) != 0 || e != api.ErrArg {
				t.Errorf("%s, Read without power: %d blocks, %d", what, len(l), e)
			}
		}
		x, e := Flush(d)
		check(t, "Flush", x, e, api.Device{}, api.ErrArg)
		for _, n := range []int{-2, -1, 0, 5} {
			x, e = Fuel(d, n)
			check(t, "Fuel", x, e, api.Device{}, api.ErrArg)
		}
		for _, l := range []api.Loss{{}, {Keep: []int{9, 9, 9}}, {Zone: 1, Cut: 5}} {
			check(t, "Crash", Crash(d, l), api.OK, api.Device{}, api.OK)
		}
	}
}

// TestAppend: P13.2, each word of it.
func TestAppend(t *testing.T) {
	four := dev(4, 2, "ab.c", "", "defg.!", "h.!", "", "i")
	three := dev(4, 3, "ab.c", "", "defg.!", "h.!", "", "i")
	for i, c := range []struct {
		d    api.Device
		z    int
		s    string
		want api.Device
		e    api.Errno
	}{
		{three, 0, "", api.Device{}, api.ErrArg},
		{three, 0, "x", api.Device{}, api.ErrArg},
		{three, 0, fill("x")[1:], api.Device{}, api.ErrArg},
		{three, 0, fill("x") + "x", api.Device{}, api.ErrArg},
		{three, 9, "x", api.Device{}, api.ErrArg},
		{three, 2, "", api.Device{}, api.ErrArg},
		{off(three), 0, "", api.Device{}, api.ErrArg},
		{three, -1, fill("x"), bad(three, 1), api.ErrRange},
		{three, math.MinInt, fill("x"), bad(three, 1), api.ErrRange},
		{three, 6, fill("x"), bad(three, 1), api.ErrRange},
		{three, math.MaxInt, fill("x"), bad(three, 1), api.ErrRange},
		{bad(three, 7), 6, fill("xyzuv"), bad(three, 8), api.ErrRange},
		{three, 2, fill("x"), bad(three, 1), api.ErrState},
		{three, 3, fill("x"), bad(three, 1), api.ErrState},
		{three, 0, fill("xy"), bad(three, 1), api.ErrState},
		{three, 1, fill("xyzuv"), bad(three, 1), api.ErrState},
		{three, 0, fill("x"), dev(4, 3, "ab.cx!", "", "defg.!", "h.!", "", "i"), api.OK},
		{three, 1, fill("x"), dev(4, 3, "ab.c", "x", "defg.!", "h.!", "", "i"), api.OK},
		{three, 4, fill("xyzu"), dev(4, 3, "ab.c", "", "defg.!", "h.!", "xyzu!", "i"), api.OK},
		{three, 4, fill("xyz"), dev(4, 3, "ab.c", "", "defg.!", "h.!", "xyz", "i"), api.OK},
		{three, 5, fill("xy"), dev(4, 3, "ab.c", "", "defg.!", "h.!", "", "ixy"), api.OK},
		// As many are open as may be.
		{four, 1, fill("x"), bad(four, 1), api.ErrState},
		{four, 4, fill("xyzu"), bad(four, 1), api.ErrState},
		{four, 5, fill("xyz"), dev(4, 2, "ab.c", "", "defg.!", "h.!", "", "ixyz!"), api.OK},
		{four, 0, fill("x"), dev(4, 2, "ab.cx!", "", "defg.!", "h.!", "", "i"), api.OK},
		// Block by block.
		{fueled(three, 3), 5, fill("xyz"), fueled(dev(4, 3, "ab.c", "", "defg.!", "h.!", "", "ixyz!"), 0), api.OK},
		{fueled(three, 9), 5, fill("xyz"), fueled(dev(4, 3, "ab.c", "", "defg.!", "h.!", "", "ixyz!"), 6), api.OK},
		{fueled(three, 2), 5, fill("xyz"), off(fueled(dev(4, 3, "ab.c", "", "defg.!", "h.!", "", "ixy"), 0)), api.ErrPower},
		{fueled(three, 1), 1, fill("xyz"), off(fueled(dev(4, 3, "ab.c", "x", "defg.!", "h.!", "", "i"), 0)), api.ErrPower},
		{fueled(three, 0), 1, fill("xyz"), off(fueled(three, 0)), api.ErrPower},
		{off(three), 1, fill("xyz"), off(three), api.ErrPower},
		{off(fueled(three, 5)), 1, fill("xyz"), off(fueled(three, 5)), api.ErrPower},
		// One zone of one block.
		{dev(1, 1, ""), 0, fill("x"), dev(1, 1, "x!"), api.OK},
		{dev(1, 1, ""), 0, fill("xy"), bad(dev(1, 1, ""), 1), api.ErrState},
	} {
		got, e := Append(c.d, c.z, c.s)
		check(t, fmt.Sprintf("%d: Append(%s, %d, %d octets)", i, tell(c.d), c.z, len(c.s)), got, e, c.want, c.e)
	}
}

// TestAppendOctets: P13.2, whatever octets they are, they are read in order.
func TestAppendOctets(t *testing.T) {
	all := strings.Builder{}
	for i := range 4 * octets {
		all.WriteByte(byte(255 - i))
	}
	d, _ := New(2, mostSize, 1)
	d, e := Append(d, 1, all.String())
	if e != api.OK || strings.Join(d.Zones[1].Blocks, "") != all.String() || len(d.Zones[1].Blocks) != 4 {
		t.Errorf("Append: %s, %d", tell(d), e)
	}
	d, e = Append(d, 1, strings.Repeat(fill("z"), mostSize-5)+all.String())
	check(t, "Append of a block more than there is room for", d, e, bad(d, 1), api.ErrState)
	d, e = Append(d, 1, strings.Repeat(fill("z"), mostSize-4))
	if l, f := Read(d, 1); e != api.OK || f != api.OK || len(l) != mostSize || !d.Zones[1].Full || strings.Join(l[:4], "") != all.String() || l[mostSize-1] != fill("z") {
		t.Errorf("Append of a zone's rest: %d, %s, %d", e, tell(d), f)
	}
}

// TestFinish: P13.2, each word of it.
func TestFinish(t *testing.T) {
	d := dev(4, 2, "ab.c", "", "defg.!", "h.!", "i")
	checkEach(t, "Finish", Finish, []asked{
		{d, -1, bad(d, 1), api.ErrRange}, {d, 5, bad(d, 1), api.ErrRange}, {d, math.MinInt, bad(d, 1), api.ErrRange}, {bad(d, 3), math.MaxInt, bad(d, 4), api.ErrRange},
		{d, 1, bad(d, 1), api.ErrState}, {d, 2, bad(d, 1), api.ErrState}, {d, 3, bad(d, 1), api.ErrState},
		{d, 0, dev(4, 2, "ab.c!", "", "defg.!", "h.!", "i"), api.OK}, {d, 4, dev(4, 2, "ab.c", "", "defg.!", "h.!", "i!"), api.OK},
		{fueled(d, 1), 4, fueled(dev(4, 2, "ab.c", "", "defg.!", "h.!", "i!"), 0), api.OK},
		{fueled(d, 9), 4, fueled(dev(4, 2, "ab.c", "", "defg.!", "h.!", "i!"), 8), api.OK},
		{fueled(d, 0), 4, off(fueled(d, 0)), api.ErrPower}, {off(d), 4, off(d), api.ErrPower}, {off(fueled(d, 2)), 4, off(fueled(d, 2)), api.ErrPower},
	})
}

// TestReset: P13.2, each word of it.
func TestReset(t *testing.T) {
	d := dev(4, 2, "ab.c", "", "defg.!", "h!", "i")
	checkEach(t, "Reset", Reset, []asked{
		{d, -1, bad(d, 1), api.ErrRange}, {d, 5, bad(d, 1), api.ErrRange}, {d, math.MinInt, bad(d, 1), api.ErrRange}, {bad(d, 3), math.MaxInt, bad(d, 4), api.ErrRange},
		{d, 1, bad(d, 1), api.ErrState}, {off(d), 1, off(bad(d, 1)), api.ErrState},
		{d, 0, dev(4, 2, "", "", "defg.!", "h!", "i"), api.OK}, {d, 2, dev(4, 2, "ab.c", "", "", "h!", "i"), api.OK},
		{d, 3, dev(4, 2, "ab.c", "", "defg.!", "", "i"), api.OK}, {d, 4, dev(4, 2, "ab.c", "", "defg.!", "h!", ""), api.OK},
		{fueled(d, 1), 4, fueled(dev(4, 2, "ab.c", "", "defg.!", "h!", ""), 0), api.OK},
		{fueled(d, 9), 4, fueled(dev(4, 2, "ab.c", "", "defg.!", "h!", ""), 8), api.OK},
		{fueled(d, 0), 4, off(fueled(d, 0)), api.ErrPower}, {off(d), 4, off(d), api.ErrPower}, {off(fueled(d, 2)), 4, off(fueled(d, 2)), api.ErrPower},
	})
}

// TestFlush: P13.2, it burns once, and all blocks are firm.
func TestFlush(t *testing.T) {
	d, firm := dev(4, 2, "ab.c", "", "defg!", "h!", "i."), dev(4, 2, "abc.", "", "defg.!", "h.!", "i.")
	for i, c := range []struct {
		d, want api.Device
		e       api.Errno
	}{
		{d, firm, api.OK}, {firm, firm, api.OK}, {fueled(d, 1), fueled(firm, 0), api.OK}, {fueled(d, 9), fueled(firm, 8), api.OK}, {bad(d, 5), bad(firm, 5), api.OK},
		{fueled(d, 0), off(fueled(d, 0)), api.ErrPower}, {off(d), off(d), api.ErrPower}, {off(fueled(d, 2)), off(fueled(d, 2)), api.ErrPower},
		{dev(4, 2, "", ""), dev(4, 2, "", ""), api.OK},
	} {
		got, e := Flush(c.d)
		check(t, fmt.Sprintf("%d: Flush(%s)", i, tell(c.d)), got, e, c.want, c.e)
	}
}

// TestRefuse: P13.2, what is refused burns nothing, and is told ahead of ErrPower; Bad goes around, and the device may be yet.
func TestRefuse(t *testing.T) {
	for _, was := range []int{0, 1, 1 << 31, math.MaxInt - 1, math.MaxInt} {
		for _, d := range []api.Device{dev(2, 1, "a", "", "bc!"), fueled(dev(2, 1, "a", "", "bc!"), 0), fueled(dev(2, 1, "a", "", "bc!"), 3), off(dev(2, 1, "a", "", "bc!"))} {
			d = bad(d, was)
			want := bad(d, was+1)
			if was == math.MaxInt {
				want = bad(d, 0)
			}
			for z, wantE := range map[int]api.Errno{-1: api.ErrRange, 3: api.ErrRange, 1: api.ErrState} {
				x, e := Append(d, z, fill("xy"))
				check(t, "Append", x, e, want, wantE)
				x, e = Finish(d, z)
				check(t, "Finish", x, e, want, wantE)
				x, e = Reset(d, z)
				check(t, "Reset", x, e, want, wantE)
				if !May(x) {
					t.Errorf("what refused %d may not be", was)
				}
			}
			x, e := Append(d, 2, fill("x"))
			check(t, "Append to a Full one", x, e, want, api.ErrState)
			x, e = Finish(d, 2)
			check(t, "Finish of a Full one", x, e, want, api.ErrState)
		}
	}
}

// TestRead: P13.3, ErrRange ahead of ErrPower; a zone's blocks.
func TestRead(t *testing.T) {
	d := dev(4, 2, "ab.c", "", "defg.!", "h!", "i")
	for z, want := range []string{"abc", "", "defg", "h", "i"} {
		for _, x := range []api.Device{d, fueled(d, 0), fueled(d, 5), bad(d, 9)} {
			if l, e := Read(x, z); !slices.Equal(l, zoneOf(want).Blocks) || e != api.OK {
				t.Errorf("Read of %d: %d blocks, %d", z, len(l), e)
			}
		}
		if l, e := Read(off(d), z); len(l) != 0 || e != api.ErrPower {
			t.Errorf("Read of %d without power: %d blocks, %d", z, len(l), e)
		}
	}
	for _, z := range []int{math.MinInt, -5, -1, 5, 6, math.MaxInt} {
		for _, x := range []api.Device{d, off(d)} {
			if l, e := Read(x, z); len(l) != 0 || e != api.ErrRange {
				t.Errorf("Read of %d: %d blocks, %d", z, len(l), e)
			}
		}
	}
}

// TestFuel: P13.3, ErrArg below -1; else Fuel is that, and the power is as it was.
func TestFuel(t *testing.T) {
	for _, d := range []api.Device{dev(4, 2, "ab.c", "", "d!"), fueled(dev(4, 2, "ab.c", "", "d!"), 0), off(fueled(dev(4, 2, "ab.c"), 3)), bad(dev(4, 2, ""), 4)} {
		for _, n := range []int{math.MinInt, -3, -2} {
			x, e := Fuel(d, n)
			check(t, fmt.Sprintf("Fuel of %d", n), x, e, api.Device{}, api.ErrArg)
		}
		for _, n := range []int{-1, 0, 1, 2, 1 << 40, math.MaxInt} {
			x, e := Fuel(d, n)
			check(t, fmt.Sprintf("Fuel of %d", n), x, e, fueled(d, n), api.OK)
		}
	}
}

// TestFuelIsBlocks: P13.2 and P13.3, of so much Fuel as many blocks and commands are done, and no more.
func TestFuelIsBlocks(t *testing.T) {
	for n := range 9 {
		d, _ := New(2, 4, 1)
		d, _ = Fuel(d, n)
		e := api.OK
		done := 0
		for _, step := range []func() (api.Device, api.Errno){
			func() (api.Device, api.Errno) { return Append(d, 0, fill("abc")) },
			func() (api.Device, api.Errno) { return Flush(d) },
			func() (api.Device, api.Errno) { return Finish(d, 0) },
			func() (api.Device, api.Errno) { return Append(d, 1, fill("d")) },
			func() (api.Device, api.Errno) { return Reset(d, 0) },
		} {
			if e == api.OK {
				if d, e = step(); e == api.OK {
					done++
				}
			}
		}
		if want := []int{0, 0, 0, 1, 2, 3, 4, 5, 5}[n]; done != want || (e == api.OK) != (n >= 7) || d.Off != (n < 7) {
			t.Errorf("Fuel %d: %d done, %d, %s", n, done, e, tell(d))
		}
	}
}

// TestCrash: P13.4, each word of it.
func TestCrash(t *testing.T) {
	d := dev(6, 3, "ab.cde", "", "fg.h!", "ij!", "kl.!", "mno")
	none := dev(6, 3, "ab.!", "", "fg.!", "", "kl.!", "")
	cut := func(block string, n int) string { return block[:n] + strings.Repeat("\x00", octets-n) }
	torn := func(z int, text string, n int) api.Device {
		c := clone(none)
		c.Zones[z] = zoneOf(text)
		last := &c.Zones[z].Blocks[len(c.Zones[z].Blocks)-1]
		*last = cut(*last, n)
		return c
	}
	all := dev(6, 3, "abcde.!", "", "fgh.!", "ij.!", "kl.!", "mno.!")
	for i, c := range []struct {
		l    api.Loss
		want api.Device
	}{
		{api.Loss{}, none}, {api.Loss{Keep: []int{0, 0, 0, 0, 0, 0}}, none}, {api.Loss{Keep: []int{-1, -1, -1, math.MinInt, -9, math.MinInt}}, none},
		{api.Loss{Keep: []int{1}}, dev(6, 3, "abc.!", "", "fg.!", "", "kl.!", "")},
		{api.Loss{Keep: []int{2, 5, 0, 1, 1, 1}}, dev(6, 3, "abcd.!", "", "fg.!", "i.!", "kl.!", "m.!")},
		{api.Loss{Keep: []int{3, 0, 1, 2, 0, 3}}, all}, {api.Loss{Keep: []int{9, 9, 9, 9, 9, 9}}, all},
		{api.Loss{Keep: []int{math.MaxInt, math.MaxInt, math.MaxInt, math.MaxInt, math.MaxInt, math.MaxInt, math.MaxInt}}, all},
		{api.Loss{Keep: []int{0, 0, 0, 0, 0, 2, 7, 7}}, dev(6, 3, "ab.!", "", "fg.!", "", "kl.!", "mn.!")},
		// One more is torn.
		{api.Loss{Zone: 0, Cut: 1}, torn(0, "abc.!", 1)}, {api.Loss{Zone: 0, Cut: octets - 1}, torn(0, "abc.!", octets-1)},
		{api.Loss{Zone: 0, Cut: octets}, torn(0, "abc.!", octets)}, {api.Loss{Zone: 0, Cut: octets + 1}, torn(0, "abc.!", octets)}, {api.Loss{Zone: 0, Cut: math.MaxInt}, torn(0, "abc.!", octets)},
		{api.Loss{Zone: 0, Cut: 0}, none}, {api.Loss{Zone: 0, Cut: -1}, none}, {api.Loss{Zone: 5, Cut: math.MinInt}, none},
		{api.Loss{Zone: 5, Cut: 7}, torn(5, "m.!", 7)}, {api.Loss{Zone: 5, Cut: 7, Keep: []int{0, 0, 0, 0, 0, 2}}, torn(5, "mno.!", 7)},
		{api.Loss{Zone: 5, Cut: 7, Keep: []int{0, 0, 0, 0, 0, -2}}, torn(5, "m.!", 7)}, {api.Loss{Zone: 3, Cut: 9}, torn(3, "i.!", 9)},
		{api.Loss{Zone: 2, Cut: 9}, torn(2, "fgh.!", 9)},
		// There is none more, or no such zone.
		{api.Loss{Zone: 4, Cut: 9}, none}, {api.Loss{Zone: 1, Cut: 9}, none}, {api.Loss{Zone: 0, Cut: 9, Keep: []int{3, 0, 1, 2, 0, 3}}, all},
		{api.Loss{Zone: 0, Cut: 9, Keep: []int{math.MaxInt}}, dev(6, 3, "abcde.!", "", "fg.!", "", "kl.!", "")},
		{api.Loss{Zone: -1, Cut: 9}, none}, {api.Loss{Zone: 6, Cut: 9}, none}, {api.Loss{Zone: math.MaxInt, Cut: 9}, none}, {api.Loss{Zone: math.MinInt, Cut: 9}, none},
	} {
		for _, x := range []api.Device{d, off(d), fueled(d, 0), off(fueled(d, 7))} {
			check(t, fmt.Sprintf("%d: Crash by %v", i, c.l), Crash(x, c.l), api.OK, c.want, api.OK)
			check(t, fmt.Sprintf("%d: Crash of a Bad one by %v", i, c.l), Crash(bad(x, 6), c.l), api.OK, bad(c.want, 6), api.OK)
		}
	}
}

// step does a command by chance, and tells what it answered, what is wanted, and what it was.
func step(chance func(n int) int, d api.Device) (got api.Device, e api.Errno, want api.Device, wantE api.Errno, what string) {
	z := chance(len(d.Zones)+2) - 1
	switch chance(8) {
	default:
		s := fill("pqrstuvw"[:chance(6)])
		if chance(12) == 0 {
			s += "x"
		}
		what = fmt.Sprintf("Append to %d of %d octets", z, len(s))
		got, e = Append(d, z, s)
		want, wantE = wantAppend(d, z, s)
	case 3:
		what = fmt.Sprintf("Finish of %d", z)
		got, e = Finish(d, z)
		want, wantE = wantFinish(d, z)
	case 4:
		what = fmt.Sprintf("Reset of %d", z)
		got, e = Reset(d, z)
		want, wantE = wantReset(d, z)
	case 5:
		what = "Flush"
		got, e = Flush(d)
		want, wantE = wantFlush(d)
	case 6:
		l := api.Loss{Zone: z, Cut: []int{-1, 0, 1, 5, 63, 64, 65}[chance(7)]}
		for range chance(len(d.Zones) + 2) {
			l.Keep = append(l.Keep, []int{-1, 0, 1, 2, 9, math.MaxInt}[chance(6)])
		}
		what = fmt.Sprintf("Crash by %v", l)
		got, want = Crash(d, l), wantCrash(d, l)
	case 7:
		n := chance(12) - 2
		what = fmt.Sprintf("Fuel of %d", n)
		got, e = Fuel(d, n)
		want, wantE = fueled(d, n), api.OK
		if n < -1 {
			want, wantE = api.Device{}, api.ErrArg
		}
	}
	return got, e, want, wantE, what
}

// TestByChance: P13.2 to P13.4, a device by chance, and commands by chance, one behind the other; what is handed in stays, and what may be stays one that may be (P13.5).
func TestByChance(t *testing.T) {
	chance := chances(7)
	count := map[api.Errno]int{}
	for range 3000 {
		d := chanceDevice(chance)
		if !May(d) {
			t.Fatalf("%s may not be", tell(d))
		}
		for range 20 {
			was := clone(d)
			got, e, want, wantE, what := step(chance, d)
			check(t, fmt.Sprintf("%s, %s", tell(d), what), got, e, want, wantE)
			if !same(d, was) {
				t.Fatalf("what was handed in, %s, is %s now", tell(was), tell(d))
			}
			if May(got) != (e != api.ErrArg) {
				t.Fatalf("%s, %s: %s may be: %v", tell(d), what, tell(got), May(got))
			}
			if t.Failed() {
				return
			}
			count[e]++
			if e != api.ErrArg {
				d = got
			}
		}
	}
	for _, e := range []api.Errno{api.OK, api.ErrArg, api.ErrRange, api.ErrState, api.ErrPower} {
		if count[e] < 500 {
			t.Errorf("error %d: %d are few", e, count[e])
		}
	}
}

// TestFirmStays: P13.5, what is firm no crash loses, however often; and what a Flush made firm is all that there is.
func TestFirmStays(t *testing.T) {
	chance := chances(11)
	for range 5000 {
		d := chanceDevice(chance)
		if chance(2) == 0 {
			if f, e := Flush(d); e == api.OK {
				d = f
			}
		}
		c := d
		for range 1 + chance(3) {
			l := api.Loss{Zone: chance(6) - 1, Cut: chance(70) - 3}
			for range chance(6) {
				l.Keep = append(l.Keep, chance(6)-2)
			}
			c = Crash(c, l)
			if !May(c) {
				t.Fatalf("Crash of %s by %v: %s may not be", tell(d), l, tell(c))
			}
			for z, x := range d.Zones {
				blocks, e := Read(c, z)
				if e != api.OK || len(blocks) < x.Firm || !slices.Equal(blocks[:x.Firm], x.Blocks[:x.Firm]) {
					t.Fatalf("Crash of %s by %v: %s", tell(d), l, tell(c))
				}
			}
		}
	}
}

// TestNewMemory: what is answered shares nothing with what was handed in, even where there is room behind it.
func TestNewMemory(t *testing.T) {
	d := dev(6, 4, "ab.cd", "", "fg.h!", "ij!")
	d.Zones = slices.Grow(d.Zones, 9)
	for z := range d.Zones {
		d.Zones[z].Blocks = slices.Grow(d.Zones[z].Blocks, 9)
	}
	room := func() []string {
		var all []string
		for _, x := range d.Zones[:cap(d.Zones)] {
			all = append(all, fmt.Sprint(x.Firm, x.Full))
			all = append(all, x.Blocks[:cap(x.Blocks)]...)
		}
		return all
	}
	was := room()
	first := func(x api.Device, _ api.Errno) api.Device { return x }
	for i, got := range []api.Device{
		first(Append(d, 0, fill("x"))), first(Append(d, 1, fill("x"))), first(Append(d, 9, fill("x"))), first(Append(d, 2, fill("x"))), first(Append(off(d), 0, fill("x"))),
		first(Finish(d, 0)), first(Finish(d, 1)), first(Reset(d, 2)), first(Reset(d, 1)), first(Flush(d)), first(Flush(off(d))), first(Fuel(d, 3)), Crash(d, api.Loss{}), Crash(d, api.Loss{Keep: []int{1, 1, 1, 1}, Zone: 3, Cut: 3}),
	} {
		for _, x := range got.Zones[:cap(got.Zones)] {
			for j := range x.Blocks[:cap(x.Blocks)] {
				x.Blocks[:cap(x.Blocks)][j] = "scribble"
			}
		}
		for z := range got.Zones[:cap(got.Zones)] {
			got.Zones[:cap(got.Zones)][z] = api.Zone{Firm: 99}
		}
		if !slices.Equal(room(), was) {
			t.Fatalf("%d: what was handed in is %s now", i, tell(d))
		}
	}
	for z := range d.Zones {
		l, _ := Read(d, z)
		for i := range l[:cap(l)] {
			l[:cap(l)][i] = "scribble"
		}
	}
	if !slices.Equal(room(), was) {
		t.Errorf("behind Read what was handed in is %s now", tell(d))
	}
}

// TestExamples: the chapter's examples.
func TestExamples(t *testing.T) {
	d, _ := New(2, 2, 1)
	open, e := Append(d, 0, fill("a"))
	check(t, "Append to an empty zone", open, e, dev(2, 1, "a", ""), api.OK)
	full, e := Append(d, 0, fill("ab"))
	check(t, "Append of Size blocks", full, e, dev(2, 1, "ab!", ""), api.OK)
	check(t, "Append, Crash", Crash(open, api.Loss{}), api.OK, d, api.OK)
	flushed, e := Flush(open)
	check(t, "Append, Flush", flushed, e, dev(2, 1, "a.", ""), api.OK)
	check(t, "Append, Flush, Crash", Crash(flushed, api.Loss{}), api.OK, dev(2, 1, "a.!", ""), api.OK)
	got, e := Append(full, 0, fill("c"))
	check(t, "Append to a Full one", got, e, bad(full, 1), api.ErrState)
}
