package block

import (
	"fmt"
	"math"
	"slices"
	"strings"
	"testing"

	"cellarer/api"
	"cellarer/zone"
)

// The document's limits, as numbers of their own.
const (
	octets     = 64    // of a block
	mostRecord = 12000 // octets of a record
	inHead     = 58    // octets of a record in its first block
	inBody     = 60    // octets of it in each other one
)

// zeros is so many octets 0.
func zeros(n int) string { return strings.Repeat("\x00", n) }

// two is a number's two octets, the lowest first.
func two(n int) string { return string([]byte{byte(n % 256), byte(n / 256)}) }

// text is so many octets, of which no two that stand near one another are the same.
func text(n int) string {
	all := make([]byte, n)
	for i := range all {
		all[i] = byte(1 + i%251)
	}
	return string(all)
}

// end is a block's last four octets.
func end(follow, which int) string { return two(follow) + string([]byte{byte(which), 165}) }

// wantBlocks is a record's blocks, as the document's words say it.
func wantBlocks(s string) []string {
	head := s[:min(len(s), inHead)]
	heads := []string{two(len(s)) + head + zeros(inHead-len(head))}
	for s = s[len(head):]; s != ""; {
		body := s[:min(len(s), inBody)]
		heads = append(heads, body+zeros(inBody-len(body)))
		s = s[len(body):]
	}
	var l []string
	for i, x := range heads {
		l = append(l, x+end(len(heads)-1-i, min(i+1, 2)))
	}
	return l
}

// wantTail says whether blocks are a tail, as the document's words say it: from each number that may stand in the first one.
func wantTail(l []string) bool {
	n := len(l)
	isFirstOnes := func(l []string, of int) bool {
		for i, block := range l {
			if follow := of - i - 1; block[60] != byte(follow%256) || block[61] != byte(follow/256) || block[62] != byte(min(i+1, 2)) || block[63] != 165 {
				return false
			}
		}
		return true
	}
	for of := 1; of <= 65536; of++ {
		// The first ones of a record of so many blocks, but not all; or one less of them, and one instead of the last one.
		if n < of && isFirstOnes(l, of) || n <= of && l[n-1][octets-1] != 165 && isFirstOnes(l[:n-1], of) {
			return true
		}
	}
	return false
}

// wantScan is what Scan answers, as the document's words say it.
func wantScan(l []string) ([]string, int, api.Errno) {
	if slices.ContainsFunc(l, func(b string) bool { return len(b) != octets }) {
		return nil, 0, api.ErrArg
	}
	var records []string
	for len(l) > 0 {
		n := int(l[0][0]) + int(l[0][1])*256
		s := l[0][2:60]
		for _, block := range l[1:] {
			s += block[:60]
		}
		if n > mostRecord || n > len(s) {
			break
		}
		blocks := wantBlocks(s[:n])
		if len(blocks) > len(l) || !slices.Equal(blocks, l[:len(blocks)]) {
			break
		}
		records, l = append(records, s[:n]), l[len(blocks):]
	}
	if len(l) > 0 && !wantTail(l) {
		return nil, 0, api.ErrBad
	}
	return records, len(l), api.OK
}

// cut is octets, block by block.
func cut(s string) []string {
	var l []string
	for ; len(s) >= octets; s = s[octets:] {
		l = append(l, s[:octets])
	}
	return l
}

// torn is a block of which so many octets are there, and octets 0 behind them.
func torn(block string, n int) string { return block[:n] + zeros(octets-n) }

// ended is a block with octets of its own, and last four octets.
func ended(follow, which int) string { return text(60) + end(follow, which) }

// with is a block in which an octet is another one.
func with(block string, at int, octet byte) string {
	return block[:at] + string([]byte{octet}) + block[at+1:]
}

// ends is blocks by their first three and last four octets.
func ends(l []string) string {
	all := strings.Builder{}
	for _, block := range l[:min(len(l), 9)] {
		fmt.Fprintf(&all, " %x..%x", block[:min(len(block), 3)], block[max(0, len(block)-4):])
	}
	return fmt.Sprintf("%d blocks:%s", len(l), all.String())
}

// check holds what Scan answers against what is wanted, and what was handed in against what it was.
func check(t *testing.T, l, want []string, wantN int, wantE api.Errno) {
	t.Helper()
	was := slices.Clone(l)
	got, n, e := Scan(l)
	if !slices.Equal(got, want) || n != wantN || e != wantE {
		t.Errorf("Scan of %s: %d records, %d, %d, want %d, %d, %d", ends(l), len(got), n, e, len(want), wantN, wantE)
	}
	if !slices.Equal(l, was) {
		t.Errorf("Scan of %s changed what was handed in", ends(was))
	}
}

// chances is numbers below n, that hang on a seed alone.
func chances(seed uint32) func(n int) int {
	return func(n int) int {
		seed = seed*1664525 + 1013904223
		return int(seed >> 8 % uint32(n))
	}
}

// sizes are how many octets records may have, at each edge that there is.
func sizes() []int {
	return []int{0, 1, 2, 57, 58, 59, 60, 61, 117, 118, 119, 177, 178, 179, 255, 256, 257, 300, 4000, 11937, 11938, 11939, 11998, 11999, 12000}
}

// TestManyByHand: P14.1, the edges.
func TestManyByHand(t *testing.T) {
	for n, want := range map[int]int{
		0: 1, 1: 1, 57: 1, 58: 1, 59: 2, 60: 2, 117: 2, 118: 2, 119: 3, 178: 3, 179: 4, 11938: 199, 11939: 200, 11998: 200, 11999: 201, 12000: 201,
		12001: 0, 12002: 0, 65535: 0, 1 << 40: 0, math.MaxInt: 0, math.MaxInt - 1: 0, math.MaxInt - 61: 0, -1: 0, -2: 0, -58: 0, -60: 0, math.MinInt: 0, math.MinInt + 1: 0,
	} {
		if got := Many(n); got != want {
			t.Errorf("Many(%d): %d, want %d", n, got, want)
		}
	}
}

// TestLayByHand: P14.1, records of one block and more, octet by octet.
func TestLayByHand(t *testing.T) {
	for _, c := range []struct{ s, want string }{
		{"", zeros(60) + "\x00\x00\x01\xa5"},
		{"a", "\x01\x00a" + zeros(57) + "\x00\x00\x01\xa5"},
		{"\x00", "\x01\x00" + zeros(58) + "\x00\x00\x01\xa5"},
		{"abc", "\x03\x00abc" + zeros(55) + "\x00\x00\x01\xa5"},
		{text(57), "\x39\x00" + text(57) + "\x00\x00\x00\x01\xa5"},
		{text(58), "\x3a\x00" + text(58) + "\x00\x00\x01\xa5"},
		{text(59), "\x3b\x00" + text(58) + "\x01\x00\x01\xa5" + "\x3b" + zeros(59) + "\x00\x00\x02\xa5"},
		{text(118), "\x76\x00" + text(58) + "\x01\x00\x01\xa5" + text(118)[58:] + "\x00\x00\x02\xa5"},
		{text(119), "\x77\x00" + text(58) + "\x02\x00\x01\xa5" + text(118)[58:] + "\x01\x00\x02\xa5" + "\x77" + zeros(59) + "\x00\x00\x02\xa5"},
	} {
		if got, e := Lay(c.s); got != c.want || e != api.OK {
			t.Errorf("Lay of %d octets: %q, %d, want %q", len(c.s), got, e, c.want)
		}
	}
	long, e := Lay(text(mostRecord))
	if l := cut(long); e != api.OK || len(long) != 201*octets || l[0][:2] != "\xe0\x2e" || l[0][60:] != "\xc8\x00\x01\xa5" || l[1][60:] != "\xc7\x00\x02\xa5" || l[200][60:] != "\x00\x00\x02\xa5" {
		t.Errorf("Lay of %d octets: %d octets, %d", mostRecord, len(long), e)
	}
}

// TestLayOfAll: P14.1, P14.2 and P14.3, a record of each size, as the document's words say it, and as many blocks as Many says; scanned it is there.
func TestLayOfAll(t *testing.T) {
	all := text(mostRecord)
	for n := range mostRecord + 1 {
		s := all[mostRecord-n:]
		got, e := Lay(s)
		if want := strings.Join(wantBlocks(s), ""); got != want || e != api.OK || Many(n) != len(want)/octets {
			t.Fatalf("Lay of %d octets: %d octets, %d, Many: %d, want %d octets", n, len(got), e, Many(n), len(want))
		}
		if l, left, e := Scan(cut(got)); !slices.Equal(l, []string{s}) || left != 0 || e != api.OK {
			t.Fatalf("Scan of a record of %d octets: %d records, %d, %d", n, len(l), left, e)
		}
	}
}

// TestLayTooLarge: P14.1, what is no record.
func TestLayTooLarge(t *testing.T) {
	for _, n := range []int{12001, 12002, 12060, 65535, 65536, 65539, 1 << 20} {
		if got, e := Lay(text(n)); got != "" || e != api.ErrLarge {
			t.Errorf("Lay of %d octets: %d octets, %d", n, len(got), e)
		}
	}
}

// TestScanOfNoBlock: P14.2, ErrArg, wherever one stands that has not 64 octets, and ahead of ErrBad.
func TestScanOfNoBlock(t *testing.T) {
	good := wantBlocks(text(150))
	for _, no := range []string{"", "x", good[0][:63], good[0] + "\x00", good[2][:63], good[2] + "\xa5", good[0] + good[1], strings.Repeat("\xa5", 65)} {
		check(t, []string{no}, nil, 0, api.ErrArg)
		for i := range len(good) + 1 {
			check(t, slices.Insert(slices.Clone(good), i, no), nil, 0, api.ErrArg)
			check(t, append(slices.Insert(slices.Clone(good), i, zeros(octets)), no), nil, 0, api.ErrArg)
		}
	}
}

// TestScanRecords: P14.2 and P14.3, records one behind the other, in order, also like ones, and none.
func TestScanRecords(t *testing.T) {
	check(t, nil, nil, 0, api.OK)
	check(t, []string{}, nil, 0, api.OK)
	var l, all []string
	for _, n := range append(sizes(), sizes()...) {
		s, e := Lay(text(n))
		if e != api.OK {
			t.Fatalf("Lay of %d octets: %d", n, e)
		}
		l, all = append(l, cut(s)...), append(all, text(n))
		check(t, l, all, 0, api.OK)
	}
}

// TestScanRecordsOfMarks: P14.2, a record's octets may look like blocks' last octets, and like blocks.
func TestScanRecordsOfMarks(t *testing.T) {
	inner := strings.Join(wantBlocks(text(59)), "")
	for _, s := range []string{strings.Repeat("\xa5", 300), strings.Repeat("\x00\x00\x01\xa5", 75), zeros(58), zeros(300), inner, inner + inner, strings.Repeat("\xff", mostRecord), zeros(mostRecord)} {
		got, e := Lay(s)
		if e != api.OK {
			t.Errorf("Lay of %d octets: %d", len(s), e)
		}
		check(t, cut(got+got), []string{s, s}, 0, api.OK)
	}
}

// TestScanSpoilt: P14.2, a record in which any octet of the count, of the octets 0 behind it, or of the last ones is another one.
func TestScanSpoilt(t *testing.T) {
	for _, s := range []string{"", "abc", text(58), text(59), text(150)} {
		l := wantBlocks(s)
		for i := range l {
			for at := range octets {
				for _, octet := range []byte{0, 1, 2, 3, 58, 59, 164, 165, 166, 255} {
					spoilt := slices.Clone(l)
					spoilt[i] = with(l[i], at, octet)
					if spoilt[i] == l[i] {
						continue
					}
					x, n, e := wantScan(spoilt)
					check(t, spoilt, x, n, e)
					x, n, e = wantScan(slices.Concat(l, spoilt, l))
					check(t, slices.Concat(l, spoilt, l), x, n, e)
				}
			}
		}
	}
}

// TestScanBehindARecord: P14.2, octets that aren't 0 behind a record's are no record, whole as the blocks are.
func TestScanBehindARecord(t *testing.T) {
	one, more := wantBlocks("abc")[0], wantBlocks(text(59))
	for _, at := range []int{5, 6, 30, 58, 59} {
		check(t, []string{with(one, at, 1)}, nil, 0, api.ErrBad)
		check(t, []string{one, with(one, at, 165)}, nil, 0, api.ErrBad)
	}
	for _, at := range []int{1, 2, 30, 59} {
		check(t, []string{more[0], with(more[1], at, 1)}, nil, 0, api.ErrBad)
	}
}

// TestScanOtherSize: P14.2, blocks whose first one tells another size than they have room for, or one that no record has.
func TestScanOtherSize(t *testing.T) {
	for _, c := range []struct{ blocks, octets int }{
		{1, 59}, {1, 60}, {1, 12000}, {1, 12001}, {1, 65535}, {2, 0}, {2, 58}, {2, 119}, {2, 65535}, {3, 118}, {3, 179}, {201, 11998}, {201, 12001}, {201, 12058}, {202, 12059}, {202, 12000},
	} {
		var l []string
		for i := range c.blocks {
			l = append(l, zeros(60)+end(c.blocks-1-i, min(i+1, 2)))
		}
		l[0] = two(c.octets) + l[0][2:]
		check(t, l, nil, 0, api.ErrBad)
		check(t, append(wantBlocks("a"), l...), nil, 0, api.ErrBad)
		for n := range c.blocks {
			if n > 0 {
				check(t, append(wantBlocks("a"), l[:n]...), []string{"a"}, n, api.OK)
			}
			check(t, append(slices.Clone(l[:n]), zeros(octets)), nil, n+1, api.OK)
		}
		check(t, append(l, zeros(octets)), nil, 0, api.ErrBad)
	}
}

// TestTailsByHand: P14.2, each word of what a tail is.
func TestTailsByHand(t *testing.T) {
	tear := func(octet byte) string { return with(ended(0, 1), octets-1, octet) }
	for _, l := range [][]string{
		{ended(1, 1)}, {ended(200, 1)}, {ended(201, 1)}, {ended(255, 1)}, {ended(256, 1)}, {ended(65535, 1)},
		{ended(2, 1), ended(1, 2)}, {ended(3, 1), ended(2, 2), ended(1, 2)}, {ended(256, 1), ended(255, 2)}, {ended(257, 1), ended(256, 2), ended(255, 2)}, {ended(65535, 1), ended(65534, 2)},
		{zeros(octets)}, {tear(0)}, {tear(1)}, {tear(164)}, {tear(166)}, {tear(255)}, {strings.Repeat("\xff", octets)}, {ended(5, 2)[:63] + "\x00"},
		{ended(1, 1), zeros(octets)}, {ended(2, 1), zeros(octets)}, {ended(65535, 1), tear(164)}, {ended(2, 1), ended(1, 2), tear(255)}, {ended(256, 1), ended(255, 2), zeros(octets)},
	} {
		check(t, l, nil, len(l), api.OK)
		check(t, append(wantBlocks(text(150)), l...), []string{text(150)}, len(l), api.OK)
	}
}

// TestNoTailsByHand: P14.2, what is no tail.
func TestNoTailsByHand(t *testing.T) {
	for _, l := range [][]string{
		{ended(0, 1)}, {ended(0, 2)}, {ended(1, 2)}, {ended(1, 0)}, {ended(1, 3)}, {ended(1, 165)}, {ended(1, 255)}, {ended(0, 0)}, {strings.Repeat("\xa5", octets)}, {zeros(63) + "\xa5"},
		{ended(1, 1), ended(0, 2)}, {ended(2, 1), ended(1, 2), ended(0, 2)}, {ended(256, 1), ended(254, 2)}, {ended(256, 1), ended(256, 2)}, {ended(256, 1), ended(511, 2)}, {ended(257, 1), ended(0, 2)},
		{ended(2, 1), ended(2, 2)}, {ended(2, 1), ended(3, 2)}, {ended(2, 1), ended(0, 2)}, {ended(2, 1), ended(1, 1)}, {ended(2, 1), ended(1, 0)}, {ended(2, 1), ended(1, 3)}, {ended(2, 1), ended(1, 255)}, {ended(2, 2), ended(1, 2)},
		{ended(0, 1), ended(65535, 2)}, {ended(1, 1), ended(0, 2), ended(65535, 2)}, {ended(0, 1), zeros(octets)}, {ended(1, 1), ended(0, 2), zeros(octets)}, {ended(1, 2), zeros(octets)}, {ended(1, 0), zeros(octets)},
		{zeros(octets), zeros(octets)}, {zeros(octets), ended(1, 1)}, {zeros(octets), ended(1, 2)}, {ended(2, 1), zeros(octets), zeros(octets)}, {ended(3, 1), zeros(octets), ended(1, 2)}, {ended(3, 1), ended(1, 2), zeros(octets)}, {ended(2, 1), ended(1, 1), zeros(octets)},
		{ended(2, 1), zeros(octets), ended(0, 2)}, {ended(5, 1), ended(5, 1)}, {ended(5, 1), wantBlocks("abc")[0]}, {zeros(octets), wantBlocks("abc")[0]},
	} {
		check(t, l, nil, 0, api.ErrBad)
		check(t, append(wantBlocks(text(150)), l...), nil, 0, api.ErrBad)
	}
}

// TestLongTail: P14.2, a tail as long as one can be, and one block more.
func TestLongTail(t *testing.T) {
	var l []string
	for follow := 65535; follow >= 0; follow-- {
		l = append(l, zeros(60)+end(follow, min(65536-follow, 2)))
	}
	check(t, l[:65534], nil, 65534, api.OK)
	check(t, l[:65535], nil, 65535, api.OK)
	check(t, append(slices.Clone(l[:65535]), zeros(octets)), nil, 65536, api.OK)
	check(t, l, nil, 0, api.ErrBad)
	check(t, append(slices.Clone(l), zeros(octets)), nil, 0, api.ErrBad)
	check(t, append(slices.Clone(l), zeros(60)+end(65535, 2)), nil, 0, api.ErrBad)
}

// TestTailFrom: P14.2, a record's blocks without the first ones are nothing.
func TestTailFrom(t *testing.T) {
	l := wantBlocks(text(300))
	for i := 1; i < len(l); i++ {
		for j := i + 1; j <= len(l); j++ {
			check(t, l[i:j], nil, 0, api.ErrBad)
		}
	}
}

// whole is how many blocks those records have that are there in so many blocks, and how many records that is.
func whole(records []string, blocks int) (int, int) {
	n := 0
	for i, s := range records {
		many := len(wantBlocks(s))
		if n+many > blocks {
			return n, i
		}
		n += many
	}
	return n, len(records)
}

// TestCutOff: P14.3, records cut off behind each octet, and octets 0 behind it.
func TestCutOff(t *testing.T) {
	for _, records := range [][]string{
		{""}, {"", "", ""}, {"abc", text(150), "abc"}, {text(58), text(59), text(118), text(119), ""}, {text(300), text(300)}, {zeros(150), zeros(58), zeros(59)},
		{strings.Repeat("\xa5", 150), "a", strings.Repeat("\xa5", 60)}, {strings.Join(wantBlocks(text(59)), ""), "b"},
	} {
		var all string
		for _, s := range records {
			blocks, _ := Lay(s)
			all += blocks
		}
		for n := range len(all) + 1 {
			left := n
			if n%octets != 0 {
				left += octets - n%octets
			}
			l := cut(all[:n] + zeros(left-n))
			// A block that is cut off within is not there, as its last octet is not.
			done, many := whole(records, n/octets)
			check(t, l, records[:many], len(l)-done, api.OK)
		}
	}
}

// TestCutOffLong: P14.3, a record as great as one can be, cut off behind each block, and in each block.
func TestCutOffLong(t *testing.T) {
	s := strings.Repeat("\xa5", mostRecord)
	all, _ := Lay(s)
	l := cut(all)
	for n := range len(l) {
		check(t, l[:n], nil, n, api.OK)
		for _, k := range []int{1, 2, 59, 60, 61, 62, 63} {
			check(t, append(slices.Clone(l[:n]), torn(l[n], k)), nil, n+1, api.OK)
		}
	}
}

// TestCrash: P14.3, records on a device that crashes: those are there that stand whole.
func TestCrash(t *testing.T) {
	chance := chances(7)
	for range 3000 {
		d, e := zone.New(1, 60, 1)
		var records []string
		blocks := 0
		for range 1 + chance(5) {
			s := text(chance(500))
			laid, _ := Lay(s)
			if d, e = zone.Append(d, 0, laid); e != api.OK {
				t.Fatalf("Append: %d", e)
			}
			if chance(3) == 0 {
				d, _ = zone.Flush(d)
			}
			records, blocks = append(records, s), blocks+Many(len(s))
		}
		keep, tear := chance(blocks+1), chance(octets)
		firm := d.Zones[0].Firm
		d = zone.Crash(d, api.Loss{Keep: []int{keep}, Cut: tear})
		l, e := zone.Read(d, 0)
		if e != api.OK {
			t.Fatalf("Read: %d", e)
		}
		done, many := whole(records, min(firm+keep, blocks))
		check(t, l, records[:many], len(l)-done, api.OK)
	}
}

// chanceBlock is a block by chance, that fits behind others by chance.
func chanceBlock(chance func(n int) int, follow int) string {
	switch chance(8) {
	case 0:
		return torn(ended(follow, 2), chance(octets))
	case 1:
		return wantBlocks(text(chance(200)))[0]
	case 2:
		return ended(chance(4), 1+chance(2))
	case 3:
		return with(ended(follow, 2), 60+chance(4), []byte{0, 1, 2, 165, 255}[chance(5)])
	}
	return ended(follow, 2)
}

// TestByChance: P14.2, records, and what may be a tail by chance, and changes in them.
func TestByChance(t *testing.T) {
	chance := chances(14)
	told := map[string]int{}
	for range 20000 {
		var l []string
		for range chance(3) {
			l = append(l, wantBlocks(text(chance(200)))...)
		}
		follow := chance(6)
		if chance(2) == 0 {
			l = append(l, ended(follow, 1))
			for range chance(follow + 2) {
				follow = max(0, follow-1)
				l = append(l, chanceBlock(chance, follow))
			}
		}
		if len(l) > 0 && chance(3) == 0 {
			i := chance(len(l))
			l[i] = with(l[i], chance(octets), []byte{0, 1, 2, 3, 165, 255}[chance(6)])
		}
		if len(l) > 0 && chance(10) == 0 {
			i := chance(len(l))
			l[i] = l[i][:chance(octets+1)]
		}
		x, n, e := wantScan(l)
		told[fmt.Sprint(e, min(n, 2))]++
		check(t, l, x, n, e)
	}
	for _, kind := range []string{"0 0", "0 1", "0 2", "1 0", "11 0"} {
		if told[kind] < 300 {
			t.Errorf("%d of %s are few", told[kind], kind)
		}
	}
}

// TestTwice: what is answered hangs on what is asked alone, and shares no list with what was answered ahead.
func TestTwice(t *testing.T) {
	l := append(wantBlocks("abc"), wantBlocks(text(100))...)
	was, _, _ := Scan(l)
	for i := range was[:cap(was)] {
		was[:cap(was)][i] = "scribble"
	}
	check(t, l, []string{"abc", text(100)}, 0, api.OK)
}

// TestExamples: the chapter's examples.
func TestExamples(t *testing.T) {
	if Many(58) != 1 || Many(59) != 2 {
		t.Errorf("Many: %d, %d", Many(58), Many(59))
	}
	all, _ := Lay(text(59))
	check(t, cut(all)[:1], nil, 1, api.OK)
	check(t, append([]string{zeros(octets)}, cut(all)...), nil, 0, api.ErrBad)
}
