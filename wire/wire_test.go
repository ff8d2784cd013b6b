package wire

import (
	"encoding/binary"
	"slices"
	"strings"
	"testing"

	"cellarer/api"
)

// count is how many octets, or texts, there are, as it is laid.
func count(n int) string {
	return string(binary.LittleEndian.AppendUint16(nil, uint16(n)))
}

// texts that are laid one by one and in lists: both edges, their neighbours, and octets that look like counts.
func texts() []string {
	return []string{
		"", "a", "ab", "\x00", "\x00\x00", "\x01\x00", "\x01\x00a", "\xff\xff", "\xa0\x0f", "\xa1\x0f", "\u00e9", "\xc3",
		strings.Repeat("x", 254), strings.Repeat("x", 255), strings.Repeat("x", 256), strings.Repeat("\xff", 257),
		strings.Repeat("y", 511), strings.Repeat("y", 512), strings.Repeat("\x00", 3999), strings.Repeat("z", 4000),
	}
}

// lists that are laid: both edges, their neighbours, and some that begin alike.
func lists() [][]string {
	return [][]string{
		nil, {""}, {"a"}, {"", ""}, {"", "a"}, {"a", ""}, {"a", "", "bc"}, {"ab"}, {"a", "b"}, {"b", "a"}, {"\x00", "\x01\x00"},
		texts(), slices.Repeat([]string{""}, 255), slices.Repeat([]string{""}, 256), slices.Repeat([]string{"q"}, 257),
		slices.Repeat([]string{"ab"}, 3999), slices.Repeat([]string{""}, 4000), slices.Repeat([]string{"abc"}, 4000),
	}
}

// behinds is what may stand behind what is taken.
func behinds() []string {
	return []string{"", "x", "\x00", "\x00\x00", "\xff\xff", "\x01\x00a", "\x01\x00\x00\x00", strings.Repeat("\xff", 9000)}
}

// numbers: both edges of each count of octets, their neighbours, and one that has each octet another.
func numbers() []uint64 {
	all := []uint64{0, 1, 2, 258, 0x0807060504030201, 0xfffefdfcfbfaf9f8, 1<<64 - 2, 1<<64 - 1}
	for i := range 64 {
		all = append(all, 1<<i-1, 1<<i, 1<<i+1)
	}
	slices.Sort(all)
	return slices.Compact(all)
}

// TestNum: P2.1, eight octets, the lowest first.
func TestNum(t *testing.T) {
	for _, c := range []struct {
		n    uint64
		want string
	}{
		{258, "\x02\x01\x00\x00\x00\x00\x00\x00"},
		{0, "\x00\x00\x00\x00\x00\x00\x00\x00"},
		{255, "\xff\x00\x00\x00\x00\x00\x00\x00"},
		{0x0807060504030201, "\x01\x02\x03\x04\x05\x06\x07\x08"},
		{1 << 63, "\x00\x00\x00\x00\x00\x00\x00\x80"},
		{1<<64 - 1, "\xff\xff\xff\xff\xff\xff\xff\xff"},
	} {
		if got := Num(c.n); got != c.want {
			t.Errorf("Num(%d): %x", c.n, got)
		}
	}
	for _, n := range numbers() {
		if got, want := Num(n), string(binary.LittleEndian.AppendUint64(nil, n)); got != want {
			t.Errorf("Num(%d): %x, want %x", n, got, want)
		}
	}
}

// TestText: P2.1, how many octets there are, in two octets, and these; at most 4000.
func TestText(t *testing.T) {
	for _, c := range []struct{ s, want string }{
		{"ab", "\x02\x00ab"}, {"", "\x00\x00"}, {"\x00", "\x01\x00\x00"}, {"\u00e9", "\x02\x00\xc3\xa9"},
	} {
		if got, e := Text(c.s); got != c.want || e != api.OK {
			t.Errorf("Text(%q): %q, %d", c.s, got, e)
		}
	}
	for _, n := range []int{254, 255, 256, 257, 3999, 4000, 4001, 4002, 65535, 65536, 65537, 70000} {
		s := strings.Repeat("t", n)
		want, wantErr := count(n)+s, api.OK
		if n > 4000 {
			want, wantErr = "", api.ErrLarge
		}
		if got, e := Text(s); got != want || e != wantErr {
			t.Errorf("Text of %d octets: %d octets, %d", n, len(got), e)
		}
	}
}

// TestList: P2.1, how many texts there are, in two octets, and each one's octets.
func TestList(t *testing.T) {
	for _, c := range []struct {
		l    []string
		want string
	}{
		{nil, "\x00\x00"}, {[]string{}, "\x00\x00"}, {[]string{""}, "\x01\x00\x00\x00"},
		{[]string{"ab"}, "\x01\x00\x02\x00ab"}, {[]string{"a", "b"}, "\x02\x00\x01\x00a\x01\x00b"},
		{[]string{"", "\x00", ""}, "\x03\x00\x00\x00\x01\x00\x00\x00\x00"},
	} {
		if got, e := List(c.l); got != c.want || e != api.OK {
			t.Errorf("List(%q): %q, %d", c.l, got, e)
		}
	}
	for _, l := range lists() {
		want := count(len(l))
		for _, s := range l {
			want += count(len(s)) + s
		}
		was := slices.Clone(l)
		if got, e := List(l); got != want || e != api.OK {
			t.Errorf("List of %d texts: %d octets, want %d; %d", len(l), len(got), len(want), e)
		}
		if !slices.Equal(l, was) {
			t.Errorf("List changed a list of %d texts", len(was))
		}
	}
}

// TestListTooLarge: P2.1, more than 4000 texts, or a text of more than 4000 octets, wherever it stands.
func TestListTooLarge(t *testing.T) {
	long := strings.Repeat("x", 4001)
	for _, l := range [][]string{
		slices.Repeat([]string{""}, 4001), slices.Repeat([]string{"a"}, 65536), slices.Repeat([]string{""}, 65537),
		slices.Repeat([]string{long}, 4001), {long}, {long, "a"}, {"a", long}, {"a", long, "b"},
		{strings.Repeat("x", 65536)}, {"", strings.Repeat("x", 65537)},
		append(slices.Repeat([]string{""}, 3999), long),
	} {
		if got, e := List(l); got != "" || e != api.ErrLarge {
			t.Errorf("List of %d texts: %d octets, %d", len(l), len(got), e)
		}
	}
	full := slices.Repeat([]string{long[1:]}, 4000)
	if got, e := List(full); len(got) != 2+4000*4002 || e != api.OK {
		t.Errorf("List of as much as may be: %d octets, %d", len(got), e)
	}
}

// TestTakeNum: P2.2, the first eight octets, and what is behind them; too few are short.
func TestTakeNum(t *testing.T) {
	for _, c := range []struct {
		s, rest string
		n       uint64
	}{
		{"\x02\x01\x00\x00\x00\x00\x00\x00", "", 258},
		{"\x02\x01\x00\x00\x00\x00\x00\x00x", "x", 258},
		{"\x01\x02\x03\x04\x05\x06\x07\x08\x09\x0a", "\x09\x0a", 0x0807060504030201},
		{"\xff\xff\xff\xff\xff\xff\xff\xff", "", 1<<64 - 1},
		{"\x00\x00\x00\x00\x00\x00\x00\x80\xff", "\xff", 1 << 63},
	} {
		if n, rest, e := TakeNum(c.s); n != c.n || rest != c.rest || e != api.OK {
			t.Errorf("TakeNum(%x): %d, %x, %d", c.s, n, rest, e)
		}
	}
	for n := range 8 {
		if got, rest, e := TakeNum(strings.Repeat("\xff", n)); got != 0 || rest != "" || e != api.ErrShort {
			t.Errorf("TakeNum of %d octets: %d, %x, %d", n, got, rest, e)
		}
	}
}

// TestTakeText: P2.2, short, or not of the form; and the form counts ahead of what is behind it.
func TestTakeText(t *testing.T) {
	x4000 := strings.Repeat("x", 4000)
	for _, c := range []struct {
		s, want, rest string
		e             api.Errno
	}{
		{"\x02\x00ab", "ab", "", api.OK}, {"\x02\x00abc", "ab", "c", api.OK}, {"\x00\x00", "", "", api.OK}, {"\x00\x00\x00", "", "\x00", api.OK},
		{"\xa0\x0f" + x4000, x4000, "", api.OK}, {"\xa0\x0f" + x4000 + "yz", x4000, "yz", api.OK}, {"\x00\x01" + x4000, x4000[:256], x4000[256:], api.OK},
		{"", "", "", api.ErrShort}, {"\x00", "", "", api.ErrShort}, {"\xff", "", "", api.ErrShort}, {"\x01", "", "", api.ErrShort},
		{"\x01\x00", "", "", api.ErrShort}, {"\x02\x00a", "", "", api.ErrShort}, {"\x00\x01" + x4000[:255], "", "", api.ErrShort},
		{"\xa0\x0f", "", "", api.ErrShort}, {"\xa0\x0f" + x4000[:3999], "", "", api.ErrShort},
		{"\xa1\x0f", "", "", api.ErrForm}, {"\xa1\x0fa", "", "", api.ErrForm}, {"\xa1\x0f" + x4000, "", "", api.ErrForm},
		{"\xa1\x0f" + x4000 + "x", "", "", api.ErrForm}, {"\xff\xff", "", "", api.ErrForm}, {"\x00\x10" + x4000 + x4000, "", "", api.ErrForm},
		{"\xff\xff" + strings.Repeat(x4000, 17), "", "", api.ErrForm},
	} {
		if got, rest, e := TakeText(c.s); got != c.want || rest != c.rest || e != c.e {
			t.Errorf("TakeText of %d octets, %.4x..: %d octets, %d behind, %d", len(c.s), c.s, len(got), len(rest), e)
		}
	}
}

// TestTakeTextCounts: P2.2, each count that two octets can tell, with nothing, one octet too few, and just enough behind it.
func TestTakeTextCounts(t *testing.T) {
	all := strings.Repeat("k", 65535)
	for n := range 65536 {
		for _, there := range []int{0, n - 1, n} {
			if there < 0 {
				continue
			}
			s := count(n) + all[:there]
			wantLen, want := 0, api.ErrShort
			if n > 4000 {
				want = api.ErrForm
			} else if there == n {
				wantLen, want = n, api.OK
			}
			if got, rest, e := TakeText(s); len(got) != wantLen || rest != "" || e != want {
				t.Fatalf("TakeText of %d octets, of which %d are there: %d octets, %d behind, %d", n, there, len(got), len(rest), e)
			}
		}
	}
}

// TestTakeList: P2.2, the first fault counts, be it in how many there are, or in a text.
func TestTakeList(t *testing.T) {
	x4001 := strings.Repeat("x", 4001)
	for _, c := range []struct {
		s    string
		want []string
		rest string
		e    api.Errno
	}{
		{"\x00\x00", nil, "", api.OK}, {"\x00\x00x", nil, "x", api.OK}, {"\x00\x00\xff\xff", nil, "\xff\xff", api.OK},
		{"\x01\x00\x00\x00", []string{""}, "", api.OK}, {"\x01\x00\x02\x00abc", []string{"ab"}, "c", api.OK},
		{"\x02\x00\x01\x00a\x01\x00b\x01\x00c", []string{"a", "b"}, "\x01\x00c", api.OK},
		{"\xa0\x0f" + strings.Repeat("\x00\x00", 4000) + "\x00", make([]string, 4000), "\x00", api.OK},
		{"\x00\x01" + strings.Repeat("\x00\x00", 256), make([]string, 256), "", api.OK},
		{"", nil, "", api.ErrShort}, {"\x00", nil, "", api.ErrShort}, {"\xff", nil, "", api.ErrShort},
		{"\x01\x00", nil, "", api.ErrShort}, {"\x01\x00\x00", nil, "", api.ErrShort}, {"\x01\x00\x01\x00", nil, "", api.ErrShort},
		{"\x02\x00\x00\x00", nil, "", api.ErrShort}, {"\x02\x00\x01\x00a\x02\x00b", nil, "", api.ErrShort},
		{"\x02\x00\x01\x00a\x01", nil, "", api.ErrShort}, {"\x02\x00\x05\x00\xff\xff", nil, "", api.ErrShort},
		{"\xa0\x0f", nil, "", api.ErrShort}, {"\xa0\x0f" + strings.Repeat("\x00\x00", 3999), nil, "", api.ErrShort},
		{"\xa0\x0f" + strings.Repeat("\x00\x00", 3999) + "\x00", nil, "", api.ErrShort},
		{"\xa1\x0f", nil, "", api.ErrForm}, {"\xa1\x0f\x01", nil, "", api.ErrForm}, {"\xff\xff", nil, "", api.ErrForm},
		{"\xa1\x0f" + strings.Repeat("\x00\x00", 4001), nil, "", api.ErrForm},
		{"\xff\xff" + strings.Repeat("\x00\x00", 65535), nil, "", api.ErrForm},
		{"\x01\x00\xa1\x0f", nil, "", api.ErrForm}, {"\x01\x00\xff\xff", nil, "", api.ErrForm},
		{"\x01\x00\xa1\x0f" + x4001, nil, "", api.ErrForm}, {"\x02\x00\x01\x00a\xa1\x0f", nil, "", api.ErrForm},
		{"\x03\x00\x01\x00a\xff\xff", nil, "", api.ErrForm}, {"\xa0\x0f\xa1\x0f", nil, "", api.ErrForm},
		{"\x00\x00\xa1\x0f", nil, "\xa1\x0f", api.OK},
	} {
		got, rest, e := TakeList(c.s)
		if !slices.Equal(got, c.want) || rest != c.rest || e != c.e {
			t.Errorf("TakeList of %d octets, %.8x..: %d texts, %d octets behind, %d", len(c.s), c.s, len(got), len(rest), e)
		}
	}
}

// TestTakenPieces: P2.2, all that is laid, cut off at each place: short, and beside it nothing is told.
func TestTakenPieces(t *testing.T) {
	text, _ := Text("a\x00\xff\xffb")
	for n := range len(text) {
		if got, rest, e := TakeText(text[:n]); got != "" || rest != "" || e != api.ErrShort {
			t.Errorf("TakeText(%x): %q, %q, %d", text[:n], got, rest, e)
		}
	}
	list, _ := List([]string{"a", "", "\xff\xff\xff", strings.Repeat("m", 300), ""})
	for n := range len(list) {
		if got, rest, e := TakeList(list[:n]); len(got) != 0 || rest != "" || e != api.ErrShort {
			t.Errorf("TakeList of %d octets: %q, %q, %d", n, got, rest, e)
		}
	}
}

// TestWhole: P2.3, TakeList's error ahead of all; then ErrForm, if something is behind the list.
func TestWhole(t *testing.T) {
	for _, c := range []struct {
		s    string
		want []string
		e    api.Errno
	}{
		{"\x00\x00", nil, api.OK}, {"\x01\x00\x00\x00", []string{""}, api.OK}, {"\x02\x00\x01\x00a\x02\x00bc", []string{"a", "bc"}, api.OK},
		{"\x00\x00\x00", nil, api.ErrForm}, {"\x00\x00x", nil, api.ErrForm}, {"\x00\x00\x00\x00", nil, api.ErrForm},
		{"\x01\x00\x00\x00\x00", nil, api.ErrForm}, {"\x01\x00\x01\x00ab", nil, api.ErrForm},
		{"", nil, api.ErrShort}, {"\x00", nil, api.ErrShort}, {"\x01\x00", nil, api.ErrShort}, {"\x01\x00\x02\x00a", nil, api.ErrShort},
		{"\x02\x00\x00\x00", nil, api.ErrShort}, {"\xa1\x0f", nil, api.ErrForm}, {"\x01\x00\xff\xff", nil, api.ErrForm},
	} {
		if got, e := Whole(c.s); !slices.Equal(got, c.want) || e != c.e {
			t.Errorf("Whole(%x): %q, %d", c.s, got, e)
		}
	}
	for _, l := range lists() {
		s, _ := List(l)
		if got, e := Whole(s); !slices.Equal(got, l) || e != api.OK {
			t.Errorf("Whole of %d texts: %d texts, %d", len(l), len(got), e)
		}
		for _, behind := range behinds()[1:] {
			if got, e := Whole(s + behind); len(got) != 0 || e != api.ErrForm {
				t.Errorf("Whole of %d texts and %d octets more: %d texts, %d", len(l), len(behind), len(got), e)
			}
		}
		if got, e := Whole(s[:len(s)-1]); len(got) != 0 || e != api.ErrShort {
			t.Errorf("Whole of %d texts but an octet: %d texts, %d", len(l), len(got), e)
		}
	}
}

// TestLaidIsTaken: P2.4, whatever stands behind it.
func TestLaidIsTaken(t *testing.T) {
	for _, behind := range behinds() {
		for _, n := range numbers() {
			if got, rest, e := TakeNum(Num(n) + behind); got != n || rest != behind || e != api.OK {
				t.Errorf("number %d: %d, %d", n, got, e)
			}
		}
		for _, s := range texts() {
			laid, _ := Text(s)
			if got, rest, e := TakeText(laid + behind); got != s || rest != behind || e != api.OK {
				t.Errorf("text of %d octets: %d octets, %d behind, %d", len(s), len(got), len(rest), e)
			}
		}
		for _, l := range lists() {
			laid, _ := List(l)
			if got, rest, e := TakeList(laid + behind); !slices.Equal(got, l) || rest != behind || e != api.OK {
				t.Errorf("list of %d texts: %d texts, %d octets behind, %d", len(l), len(got), len(rest), e)
			}
		}
	}
}

// noneBeginsWithAnother: of what different things are laid as, does none begin with another?
func noneBeginsWithAnother(t *testing.T, all []string) {
	t.Helper()
	for i, a := range all {
		for j, b := range all {
			if i != j && strings.HasPrefix(a, b) {
				t.Errorf("what is laid as %d. begins with what is laid as %d.", i, j)
			}
		}
	}
}

// TestNoneBeginsWithAnother: P2.4, among numbers, texts and lists.
func TestNoneBeginsWithAnother(t *testing.T) {
	var nums, laidTexts, laidLists []string
	for _, n := range numbers() {
		nums = append(nums, Num(n))
	}
	for _, s := range texts() {
		laid, _ := Text(s)
		laidTexts = append(laidTexts, laid)
	}
	for _, l := range lists() {
		laid, _ := List(l)
		laidLists = append(laidLists, laid)
	}
	noneBeginsWithAnother(t, nums)
	noneBeginsWithAnother(t, laidTexts)
	noneBeginsWithAnother(t, laidLists)
}

// TestTakenIsLaid: what is taken of any few octets is laid as these again, so that nothing is told in two ways.
func TestTakenIsLaid(t *testing.T) {
	const octets = "\x00\x01\x02\x0f\xa1\xff"
	all := []string{""}
	for first := 0; len(all[first]) < 6; first++ {
		for i := range len(octets) {
			all = append(all, all[first]+octets[i:i+1])
		}
	}
	for _, s := range all {
		if text, rest, e := TakeText(s); e == api.OK {
			if laid, _ := Text(text); laid+rest != s {
				t.Fatalf("TakeText(%x): %x, %x", s, text, rest)
			}
		}
		if l, rest, e := TakeList(s); e == api.OK {
			if laid, _ := List(l); laid+rest != s {
				t.Fatalf("TakeList(%x): %x, %x", s, l, rest)
			}
		}
	}
}
