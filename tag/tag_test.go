package tag

import (
	"encoding/binary"
	"hash/crc32"
	"math"
	"regexp"
	"slices"
	"strconv"
	"strings"
	"sync"
	"testing"

	"cellarer/api"
)

// known: texts, and their tags as they are told elsewhere.
func known() map[string]uint32 {
	rise, fall := "", ""
	for i := range 32 {
		rise, fall = rise+string([]byte{byte(i)}), fall+string([]byte{byte(31 - i)})
	}
	return map[string]uint32{
		"": 0, "123456789": 0xe3069283, "a": 0xc1d04330, "abc": 0x364b3fb7, "abcdefghijklmnopqrstuvwxyz": 0x9ee6ef25,
		"\x00": 0x527d5351, "\xff": 0xff000000, "\x00\x00\x00\x00": 0x48674bc7, "\xff\xff\xff\xff": 0xffffffff,
		strings.Repeat("\x00", 32): 0x8a9136aa, strings.Repeat("\xff", 32): 0x62a8ab43, rise: 0x46dd794e, fall: 0x113fdb5c,
	}
}

// anyTags: both ends, single bits, and some between.
func anyTags() []uint32 {
	all := []uint32{0, 1, 2, 9, 10, 15, 16, 255, 256, 65535, 65536, 0x7fffffff, 0x80000000, 0xfffffffe, 0xffffffff, 0xe3069283, 0x01234567, 0x89abcdef, 0x82f63b78}
	for n := range 32 {
		all = append(all, 1<<n, ^uint32(1<<n))
	}
	for n, t := uint32(0), uint32(1); n < 200; n++ {
		t = t*1664525 + 1013904223
		all = append(all, t)
	}
	return all
}

// anyText: octets of all kinds, so many.
func anyText(size int) string {
	text, n := make([]byte, size), uint32(size)
	for i := range text {
		n = n*1664525 + 1013904223
		text[i] = byte(n >> 24)
	}
	return string(text)
}

// slow is the tag of octets as the document's words say it, bit by bit.
func slow(s string) uint32 {
	register := uint32(0xffffffff)
	for i := range len(s) {
		register ^= uint32(s[i])
		for range 8 {
			off := register%2 == 1
			register /= 2
			if off {
				register ^= 0x82f63b78
			}
		}
	}
	return register ^ 0xffffffff
}

// laid is what Many tells of tags that it does not refuse.
func laid(l []uint32) string {
	var octets []byte
	for _, t := range l {
		octets = binary.BigEndian.AppendUint32(octets, t)
	}
	return hex(slow(string(octets))) + "-" + strconv.Itoa(len(l))
}

func hex(t uint32) string {
	text := strconv.FormatUint(uint64(t), 16)
	return strings.Repeat("0", 8-len(text)) + text
}

// TestStep: the way of P4.1, what each octet does to a register is as the document's words say it.
func TestStep(t *testing.T) {
	for c := range 256 {
		// Behind its one octet, the register at first has 00ffffff, and what that octet, turned over, does to it.
		octet := byte(c)
		if got, want := ^(uint32(0xffffff) ^ Step(^octet)), slow(string([]byte{octet})); got != want {
			t.Errorf("Step(%d): tag %08x, want %08x", ^octet, got, want)
		}
	}
}

// TestStepFirst: the way of P4.1, the array is made once, by whichever of the first calls, and these may come together; Step reads it.
func TestStepFirst(t *testing.T) {
	for range 20 {
		made, steps = sync.Once{}, [256]uint32{}
		got := make([]uint32, 16)
		var all sync.WaitGroup
		for i := range got {
			all.Add(1)
			go func() {
				defer all.Done()
				got[i] = Step(128)
			}()
		}
		all.Wait()
		for i, n := range got {
			if n != 0x82f63b78 {
				t.Fatalf("call %d of the first: %08x", i, n)
			}
		}
	}
	steps[128] = 1
	if got := Step(128); got != 1 {
		t.Errorf("the array was made again, or is not read: %08x", got)
	}
	made = sync.Once{}
}

// TestBesideSteps: P4.1, P4.2, no answer hangs on the array: neither on whether it is made, nor on what stands in it.
func TestBesideSteps(t *testing.T) {
	for _, spoil := range []func(){
		func() { made, steps = sync.Once{}, [256]uint32{} },
		func() { Step(0) },
		func() {
			for i := range steps {
				steps[i] = uint32(i) * 0x9e3779b9
			}
		},
	} {
		spoil()
		was := steps
		if got := Of("123456789"); got != 0xe3069283 {
			t.Errorf("Of: %08x", got)
		}
		if got := More(slow("12345"), "6789"); got != 0xe3069283 {
			t.Errorf("More: %08x", got)
		}
		if got := Text(0xe3069283); got != "e3069283" {
			t.Errorf("Text: %q", got)
		}
		if got, e := Parse("e3069283"); got != 0xe3069283 || e != api.OK {
			t.Errorf("Parse: %08x, %d", got, e)
		}
		if got, e := Many([]uint32{0x31323334, 0x35363738}); got != laid([]uint32{0x31323334, 0x35363738}) || e != api.OK {
			t.Errorf("Many: %q, %d", got, e)
		}
		if got, n, e := Read("e3069283-9"); got != 0xe3069283 || n != 9 || e != api.OK {
			t.Errorf("Read: %08x, %d, %d", got, n, e)
		}
		if steps != was {
			t.Error("the array is another one behind the calls")
		}
	}
	made = sync.Once{}
}

// TestOf: P4.1, tags that are known, and each octet, alone and behind others.
func TestOf(t *testing.T) {
	for s, want := range known() {
		if got := Of(s); got != want {
			t.Errorf("Of(%.20q): %08x, want %08x", s, got, want)
		}
	}
	for c := range 256 {
		for _, s := range []string{string([]byte{byte(c)}), "ab" + string([]byte{byte(c)}), string([]byte{byte(c), 0}), string([]byte{byte(c), byte(c), 'z'})} {
			if got, want := Of(s), slow(s); got != want {
				t.Errorf("Of(%q): %08x, want %08x", s, got, want)
			}
		}
	}
	for _, s := range []string{"\u00e9\u4e16\U0001f600", "\xc3", "\xed\xa0\x80", "a\x00b"} {
		if got, want := Of(s), slow(s); got != want {
			t.Errorf("Of(%q): %08x, want %08x", s, got, want)
		}
	}
}

// TestOfSizes: P4.1, octets of many sizes, few and many.
func TestOfSizes(t *testing.T) {
	castagnoli := crc32.MakeTable(crc32.Castagnoli)
	for _, size := range []int{0, 1, 2, 3, 4, 5, 7, 8, 9, 63, 64, 65, 255, 256, 257, 1999, 2000, 4000, 20000, 1 << 20} {
		s := anyText(size)
		if got, want := Of(s), crc32.Checksum([]byte(s), castagnoli); got != want {
			t.Errorf("Of of %d octets: %08x, want %08x", size, got, want)
		}
		if got := Of(s); got != Of(s) || got != slow(s) {
			t.Errorf("Of of %d octets: %08x, want %08x", size, got, slow(s))
		}
	}
}

// TestMore: P4.1, of whatever tag: it is that of some four octets, and More is that of these and those behind them.
func TestMore(t *testing.T) {
	castagnoli := crc32.MakeTable(crc32.Castagnoli)
	for _, tag := range anyTags() {
		for _, size := range []int{0, 1, 2, 3, 4, 5, 20} {
			s := anyText(size)
			if got, want := More(tag, s), crc32.Update(tag, castagnoli, []byte(s)); got != want {
				t.Errorf("More(%08x, %q): %08x, want %08x", tag, s, got, want)
			}
		}
		if got := More(tag, ""); got != tag {
			t.Errorf("More(%08x) of nothing: %08x", tag, got)
		}
	}
	if got := More(Of("12345"), "6789"); got != 0xe3069283 {
		t.Errorf("More(Of(12345), 6789): %08x", got)
	}
}

// TestCut: P4.3, wherever octets are cut, and however often, the tag is that of the first, and of More.
func TestCut(t *testing.T) {
	for size := range 40 {
		s := anyText(size)
		want := slow(s)
		for a := range size + 1 {
			if got := More(Of(s[:a]), s[a:]); got != want {
				t.Errorf("%d octets, cut at %d: %08x, want %08x", size, a, got, want)
			}
			for b := a; b <= size; b++ {
				if got := More(More(Of(s[:a]), s[a:b]), s[b:]); got != want {
					t.Errorf("%d octets, cut at %d and %d: %08x, want %08x", size, a, b, got, want)
				}
			}
		}
		each := Of("")
		for i := range size {
			each = More(each, s[i:i+1])
		}
		if each != want {
			t.Errorf("%d octets, one by one: %08x, want %08x", size, each, want)
		}
	}
}

// TestText: P4.2, eight digits, the highest first, noughts ahead; Parse makes the tag of them again.
func TestText(t *testing.T) {
	for tag, want := range map[uint32]string{0: "00000000", 1: "00000001", 9: "00000009", 10: "0000000a", 15: "0000000f", 16: "00000010", 255: "000000ff", 0xe3069283: "e3069283", 0x01234567: "01234567", 0x89abcdef: "89abcdef", math.MaxUint32: "ffffffff"} {
		if got := Text(tag); got != want {
			t.Errorf("Text(%d): %q, want %q", tag, got, want)
		}
	}
	for _, tag := range anyTags() {
		if got := Text(tag); got != hex(tag) {
			t.Errorf("Text(%d): %q, want %q", tag, got, hex(tag))
		}
		if got, e := Parse(Text(tag)); got != tag || e != api.OK {
			t.Errorf("Parse(%q): %08x, %d", Text(tag), got, e)
		}
	}
}

// spoilt: texts of no form, neither of a tag nor of Many.
func spoilt() []string {
	return []string{
		"", "0", "-", "-1", "-12345678", "e306928", "e30692830", "0e3069283", "E3069283", "e306928G", "e306928g", "0xe30692", "+e306928", " e306928", "e306928 ", "e3069283 ",
		"e3069283\n", "\x00e306928", "e306928\x00", "e306_928", "e306.928", "e306928`", "e306928/", "e306928:", "e306928@", "e306928\xff", "\u0661306928", "e306928\u0661", "e3069\u00e9",
		"00000000e3069283", "1e3069283", "100000000", "4294967296", strings.Repeat("0", 16), strings.Repeat("f", 1000000), strings.Repeat("0", 1000000) + "-1",
	}
}

// TestParse: P4.2, the tag of each octet's place; ErrForm, and no tag, of what is no tag's text.
func TestParse(t *testing.T) {
	for text, want := range map[string]uint32{"00000000": 0, "0000000f": 15, "000000ff": 255, "e3069283": 0xe3069283, "ffffffff": math.MaxUint32, "12345678": 0x12345678, "9abcdef0": 0x9abcdef0, "00000100": 256, "80000000": 1 << 31} {
		if got, e := Parse(text); got != want || e != api.OK {
			t.Errorf("Parse(%q): %08x, %d", text, got, e)
		}
	}
	laid, e := Many([]uint32{1, 2})
	if e != api.OK {
		t.Fatalf("Many: %d", e)
	}
	for _, text := range append(spoilt(), laid, "000000ff-1", "000000ff-") {
		if got, e := Parse(text); got != 0 || e != api.ErrForm {
			t.Errorf("Parse of %d octets, %.20q: %08x, %d", len(text), text, got, e)
		}
	}
	form := regexp.MustCompile(`^[0-9a-f]{8}\z`)
	for at := range 8 {
		for c := range 256 {
			text := "1234abcd"[:at] + string([]byte{byte(c)}) + "1234abcd"[at+1:]
			want, wantErr := uint64(0), api.ErrForm
			if form.MatchString(text) {
				want, _ = strconv.ParseUint(text, 16, 32)
				wantErr = api.OK
			}
			if got, e := Parse(text); got != uint32(want) || e != wantErr {
				t.Errorf("Parse(%q): %08x, %d, want %08x, %d", text, got, e, want, wantErr)
			}
		}
	}
}

// TestMany: P4.2, the tag of tags' octets, the highest first, and how many there are; what is handed in stays as it was.
func TestMany(t *testing.T) {
	for want, l := range map[string][]uint32{
		"48674bc7-1": {0}, "ffffffff-1": {math.MaxUint32}, hex(0x8a9136aa) + "-8": make([]uint32, 8),
		hex(slow("12345678")) + "-2": {0x31323334, 0x35363738}, hex(slow("\x00\x00\x00\x01\x00\x00\x00\x02")) + "-2": {1, 2}, hex(slow("\x00\x00\x00\x02\x00\x00\x00\x01")) + "-2": {2, 1},
	} {
		if got, e := Many(l); got != want || e != api.OK {
			t.Errorf("Many(%08x): %q, %d, want %q", l, got, e, want)
		}
	}
	all := anyTags()
	for n := 1; n <= api.MaxTags; n++ {
		l := slices.Clone(all[n : 2*n])
		if got, e := Many(l); got != laid(l) || e != api.OK {
			t.Errorf("Many of %d tags: %q, %d, want %q", n, got, e, laid(l))
		}
		if !slices.Equal(l, all[n:2*n]) {
			t.Errorf("Many of %d tags: they are others now", n)
		}
	}
}

// TestManyRefused: P4.2, ErrArg, and no text, of none, and of more than MaxTags; not of so many.
func TestManyRefused(t *testing.T) {
	for _, l := range [][]uint32{nil, {}, make([]uint32, 0, 5), make([]uint32, 101), make([]uint32, 102), make([]uint32, 356), make([]uint32, 65537), make([]uint32, 1<<20)} {
		if got, e := Many(l); got != "" || e != api.ErrArg {
			t.Errorf("Many of %d: %q, %d", len(l), got, e)
		}
	}
	for _, n := range []int{1, 99, 100} {
		if got, e := Many(make([]uint32, n)); e != api.OK || !strings.HasSuffix(got, "-"+strconv.Itoa(n)) {
			t.Errorf("Many of %d: %q, %d", n, got, e)
		}
	}
}

// TestRead: P4.2, of a tag's text the tag and 0; of what Many tells, the tag and how many, each number that may be.
func TestRead(t *testing.T) {
	all := anyTags()
	for _, tag := range all {
		if got, n, e := Read(Text(tag)); got != tag || n != 0 || e != api.OK {
			t.Errorf("Read(%q): %08x, %d, %d", Text(tag), got, n, e)
		}
	}
	for n := 1; n <= 100; n++ {
		text, _ := Many(all[:n])
		want, _ := Parse(text[:8])
		if got, many, e := Read(text); got != want || many != n || e != api.OK {
			t.Errorf("Read(%q): %08x, %d, %d", text, got, many, e)
		}
		for _, tag := range all {
			text := hex(tag) + "-" + strconv.Itoa(n)
			if got, many, e := Read(text); got != tag || many != n || e != api.OK {
				t.Errorf("Read(%q): %08x, %d, %d", text, got, many, e)
			}
		}
	}
}

// TestReadTagsOfAnyTag: P4.2, why Read refuses no tag: so many tags can be found whose tag is that one.
func TestReadTagsOfAnyTag(t *testing.T) {
	for _, want := range []uint32{0, 1, 0xe3069283, math.MaxUint32} {
		for _, n := range []int{1, 2, 100} {
			l := anyTags()[:n]
			// The four octets behind a register that make it the one sought: back, bit by bit, from the end.
			register := ^want
			for range 32 {
				if register>>31 == 1 {
					register = (register^0x82f63b78)<<1 | 1
				} else {
					register <<= 1
				}
			}
			at := uint32(math.MaxUint32)
			if n > 1 {
				ahead, _ := Many(l[:n-1])
				tag, _ := Parse(ahead[:8])
				at = ^tag
			}
			last := register ^ at
			l[n-1] = last<<24 | last>>24 | last<<8&0xff0000 | last>>8&0xff00
			if got, e := Many(l); got != hex(want)+"-"+strconv.Itoa(n) || e != api.OK {
				t.Errorf("Many of %d tags: %q, %d, want %08x", n, got, e, want)
			}
		}
	}
}

// TestReadForm: P4.2, ErrForm, and nothing told, of what is neither a tag's text nor what Many tells.
func TestReadForm(t *testing.T) {
	texts := spoilt()
	for _, behind := range []string{
		"-", "--", "-0", "-00", "-01", "-001", "-0100", "-101", "-102", "-200", "-999", "-1000", "-1-", "-1-1", "--1", "-+1", "+1", "-1 ", "- 1", " -1", "-a", "-0x1", "-1a", "-a1", "-f", "-1f", "-1.0", "-1e1",
		"-1_0", "-1\n", "-1\x00", "\x00-1", "-\u0661", "\u20111", "_1", "1", "12", "00000000", "-4294967295", "-4294967296", "-4294967297", "-4294967306", "-18446744073709551616", "-18446744073709551617", "-9223372036854775809",
		"-" + strings.Repeat("9", 1000), "-" + strings.Repeat("0", 1000) + "1", "-1" + strings.Repeat("0", 100000), "-" + strings.Repeat("1", 100000),
	} {
		texts = append(texts, "000000ff"+behind)
	}
	texts = append(texts, "ff-1", "00000ff-1", "0000000ff-1", "000000FF-1", "000000fg-1", "-000000ff", "1-000000ff", "000000f--1", " 000000ff-1", "-1")
	for _, text := range texts {
		if tag, n, e := Read(text); tag != 0 || n != 0 || e != api.ErrForm {
			t.Errorf("Read of %d octets, %.30q: %08x, %d, %d", len(text), text, tag, n, e)
		}
	}
}

// TestReadEachOctet: P4.2, texts with one octet turned, put in, or left out are read if they are of the form, and else refused.
func TestReadEachOctet(t *testing.T) {
	form := regexp.MustCompile(`^[0-9a-f]{8}(-([1-9][0-9]?|100))?\z`)
	texts := map[string]bool{}
	for _, whole := range []string{"12ab34cd", "12ab34cd-7", "12ab34cd-10", "12ab34cd-99", "12ab34cd-100", "00000000-1"} {
		for at := range len(whole) + 1 {
			for c := range 256 {
				texts[whole[:at]+string([]byte{byte(c)})+whole[at:]] = true
				if at < len(whole) {
					texts[whole[:at]+string([]byte{byte(c)})+whole[at+1:]] = true
				}
			}
			if at < len(whole) {
				texts[whole[:at]+whole[at+1:]] = true
			}
		}
	}
	for text := range texts {
		want, wantMany, wantErr := uint64(0), 0, api.ErrForm
		if form.MatchString(text) {
			want, _ = strconv.ParseUint(text[:8], 16, 32)
			wantErr = api.OK
		}
		if wantErr == api.OK && len(text) > 8 {
			wantMany, _ = strconv.Atoi(text[9:])
		}
		if tag, n, e := Read(text); uint64(tag) != want || n != wantMany || e != wantErr {
			t.Errorf("Read(%q): %08x, %d, %d, want %08x, %d, %d", text, tag, n, e, want, wantMany, wantErr)
		}
	}
}

// FuzzRead: P4.2, whatever is read is laid again as it was, and is told once.
func FuzzRead(f *testing.F) {
	for _, text := range append(spoilt()[:30], "e3069283", "e3069283-1", "e3069283-100", "e3069283-4294967297") {
		f.Add(text)
	}
	f.Fuzz(func(t *testing.T, text string) {
		tag, n, e := Read(text)
		again := Text(tag)
		if n > 0 {
			again += "-" + strconv.Itoa(n)
		}
		if (e == api.OK) != (again == text) || n < 0 || n > 100 || e != api.OK && (e != api.ErrForm || tag != 0 || n != 0) {
			t.Errorf("Read(%q): %08x, %d, %d", text, tag, n, e)
		}
		if got, parsed := Parse(text); (parsed == api.OK) != (e == api.OK && n == 0) || parsed == api.OK && got != tag {
			t.Errorf("Parse(%q): %08x, %d", text, got, parsed)
		}
	})
}
