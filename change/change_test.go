package change

import (
	"encoding/binary"
	"fmt"
	"math"
	"slices"
	"strings"
	"testing"

	"cellarer/api"
	"cellarer/depot"
	"cellarer/items"
)

// The document's limits, as numbers of their own.
const (
	mostName   = 200
	mostText   = 4000
	mostNotes  = 100
	mostRecord = 12000
	counted    = 2  // octets of how many texts a record's list has
	around     = 24 // octets of a note's four texts beside its Name and its Val
)

// brief is the beginning of how a value is told.
func brief(x any) string { return fmt.Sprintf("%.600s", fmt.Sprintf("%q", fmt.Sprint(x))) }

// is is a note of a change that is not Gone.
func is(stamp uint64, name, val string) api.Note {
	return api.Note{Stamp: stamp, C: api.Change{Name: name, Val: val}}
}

// gone is a note of a change that is Gone.
func gone(stamp uint64, name string) api.Note {
	return api.Note{Stamp: stamp, C: api.Change{Name: name, Gone: true}}
}

// goneVal is a note that may not be: Gone, and with a Val.
func goneVal(stamp uint64, name, val string) api.Note {
	return api.Note{Stamp: stamp, C: api.Change{Name: name, Val: val, Gone: true}}
}

// eight is a number's octets, the lowest first.
func eight(n uint64) string { return string(binary.LittleEndian.AppendUint64(nil, n)) }

// list is a list's octets.
func list(l ...string) string {
	out := binary.LittleEndian.AppendUint16(nil, uint16(len(l)))
	for _, s := range l {
		out = append(binary.LittleEndian.AppendUint16(out, uint16(len(s))), s...)
	}
	return string(out)
}

// wantTexts is the four texts of each note, note behind note.
func wantTexts(l ...api.Note) []string {
	var texts []string
	for _, n := range l {
		flag := uint64(0)
		if n.C.Gone {
			flag = 1
		}
		texts = append(texts, eight(n.Stamp), n.C.Name, eight(flag), n.C.Val)
	}
	return texts
}

// wantLay is the octets of notes, as the document's words say it.
func wantLay(l ...api.Note) string { return list(wantTexts(l...)...) }

// wantMay says whether a note may be, as the document's words say it.
func wantMay(n api.Note) bool {
	return n.Stamp >= 1 && len(n.C.Name) >= 1 && len(n.C.Name) <= mostName && len(n.C.Val) <= mostText && (!n.C.Gone || len(n.C.Val) == 0)
}

// cutter cuts octets off.
type cutter struct {
	s   string
	bad bool
}

// text is the text with which the octets begin.
func (c *cutter) text() string {
	if len(c.s) < 2 {
		c.bad = true
		return ""
	}
	n := int(c.s[0]) + int(c.s[1])*256
	if len(c.s) < 2+n {
		c.bad = true
		return ""
	}
	text := c.s[2 : 2+n]
	c.s = c.s[2+n:]
	return text
}

// wantTake is the notes of octets, and whether they are a record's, read octet by octet.
func wantTake(s string) ([]api.Note, bool) {
	if len(s) < counted || len(s) > mostRecord {
		return nil, false
	}
	texts := int(s[0]) + int(s[1])*256
	if texts%4 != 0 || texts < 4 || texts > 4*mostNotes {
		return nil, false
	}
	c := cutter{s: s[counted:]}
	var l []api.Note
	for range texts / 4 {
		stamp, name, flag, val := c.text(), c.text(), c.text(), c.text()
		if c.bad || len(stamp) != 8 || flag != eight(0) && flag != eight(1) {
			return nil, false
		}
		n := api.Note{Stamp: binary.LittleEndian.Uint64([]byte(stamp)), C: api.Change{Name: name, Val: val, Gone: flag == eight(1)}}
		if !wantMay(n) {
			return nil, false
		}
		l = append(l, n)
	}
	return l, c.s == ""
}

// wantCount is the notes that count: those than which none of their name has a greater stamp, or, behind them, the same one.
func wantCount(l []api.Note) []api.Note {
	var out []api.Note
	for i, n := range l {
		beaten := false
		for j, m := range l {
			if m.C.Name == n.C.Name && (m.Stamp > n.Stamp || m.Stamp == n.Stamp && j > i) {
				beaten = true
			}
		}
		if !beaten {
			out = append(out, n)
		}
	}
	slices.SortFunc(out, func(x, y api.Note) int { return strings.Compare(x.C.Name, y.C.Name) })
	return out
}

// wantItems is the items of notes.
func wantItems(l []api.Note) []api.Item {
	var out []api.Item
	for _, n := range wantCount(l) {
		if !n.C.Gone {
			out = append(out, api.Item{Name: n.C.Name, Val: n.C.Val})
		}
	}
	return out
}

// wantLive is those notes of l that are the same as one that counts of all.
func wantLive(all, l []api.Note) []api.Note {
	var out []api.Note
	for _, n := range l {
		if slices.Contains(wantCount(all), n) {
			out = append(out, n)
		}
	}
	return out
}

// chances is numbers below n, that hang on a seed alone.
func chances(seed uint32) func(n int) int {
	return func(n int) int {
		seed = seed*1664525 + 1013904223
		return int(seed >> 8 % uint32(n))
	}
}

// chanceNote is a note by chance, that may be, of few names and stamps.
func chanceNote(chance func(n int) int) api.Note {
	names := []string{"a", "a\x00", "a\n", "ab", "b", "\x00", "\xff", "é", "t"}
	n := is(1+uint64(chance(4)), names[chance(len(names))], []string{"", "1", "2", "\x00"}[chance(4)])
	if chance(3) == 0 {
		n = gone(n.Stamp, n.C.Name)
	}
	return n
}

// chanceNotes is fewer than most notes by chance; one of them may have a stamp 0, an empty name, or a Val though it is Gone.
func chanceNotes(chance func(n int) int, most int) []api.Note {
	var l []api.Note
	for range chance(most) {
		n := chanceNote(chance)
		switch chance(20) {
		case 0:
			n.Stamp = 0
		case 1:
			n.C.Name = ""
		case 2:
			n = goneVal(n.Stamp, n.C.Name, "x")
		case 3:
			n.Stamp = math.MaxUint64 - uint64(chance(2))
		}
		l = append(l, n)
	}
	return l
}

// notesToMay is notes that may be, and that may not be, each at an edge.
func notesToMay() ([]api.Note, []api.Note) {
	may := []api.Note{
		is(1, "a", ""), is(1, "a", "x"), is(2, "a", "x"), is(math.MaxUint64, "a", "x"), gone(1, "a"), gone(math.MaxUint64, "a"),
		is(1, strings.Repeat("n", mostName), ""), gone(1, strings.Repeat("n", mostName)), is(1, strings.Repeat("é", mostName/2), "x"),
		is(1, "a", strings.Repeat("v", mostText)), is(1, strings.Repeat("n", mostName), strings.Repeat("v", mostText)),
		is(1, "\x00", "\x00"), is(1, "\n", "\n"), is(1, "\xff", "\xff"), is(1, " ", " "), is(256, "é", "\xc3"), is(1, "a", strings.Repeat("é", mostText/2)),
	}
	mayNot := []api.Note{
		{}, is(0, "a", ""), is(0, "a", "x"), gone(0, "a"), is(1, "", ""), is(1, "", "x"), gone(1, ""),
		is(1, strings.Repeat("n", mostName+1), ""), gone(1, strings.Repeat("n", mostName+1)), is(1, strings.Repeat("é", mostName/2)+"x", ""), is(1, strings.Repeat("n", 70000), ""),
		is(1, "a", strings.Repeat("v", mostText+1)), is(1, "a", strings.Repeat("é", mostText/2+1)), is(1, "a", strings.Repeat("v", 65536)), is(1, "a", strings.Repeat("v", 70000)),
		goneVal(1, "a", "x"), goneVal(1, "a", "\x00"), goneVal(1, "a", strings.Repeat("v", mostText)), goneVal(1, "a", strings.Repeat("v", mostText+1)),
	}
	return may, mayNot
}

// TestMay: P12.1, each word of it, at its edges.
func TestMay(t *testing.T) {
	may, mayNot := notesToMay()
	for _, n := range may {
		if !May(n) {
			t.Errorf("May(%s): false", brief(n))
		}
	}
	for _, n := range mayNot {
		if May(n) {
			t.Errorf("May(%s): true", brief(n))
		}
	}
}

// TestLayByHand: P12.1, a record's octets, one by one.
func TestLayByHand(t *testing.T) {
	for _, c := range []struct {
		l    []api.Note
		want string
	}{
		{[]api.Note{is(258, "a", "xy")}, "\x04\x00\x08\x00\x02\x01\x00\x00\x00\x00\x00\x00\x01\x00a\x08\x00\x00\x00\x00\x00\x00\x00\x00\x00\x02\x00xy"},
		{[]api.Note{gone(1, "ab")}, "\x04\x00\x08\x00\x01\x00\x00\x00\x00\x00\x00\x00\x02\x00ab\x08\x00\x01\x00\x00\x00\x00\x00\x00\x00\x00\x00"},
		{[]api.Note{is(math.MaxUint64, "\x00", "")}, "\x04\x00\x08\x00\xff\xff\xff\xff\xff\xff\xff\xff\x01\x00\x00\x08\x00\x00\x00\x00\x00\x00\x00\x00\x00\x00\x00"},
		{[]api.Note{is(2, "b", "x"), gone(1, "a")}, "\x08\x00" +
			"\x08\x00\x02\x00\x00\x00\x00\x00\x00\x00\x01\x00b\x08\x00\x00\x00\x00\x00\x00\x00\x00\x00\x01\x00x" +
			"\x08\x00\x01\x00\x00\x00\x00\x00\x00\x00\x01\x00a\x08\x00\x01\x00\x00\x00\x00\x00\x00\x00\x00\x00"},
		{[]api.Note{is(1, "a", "x"), gone(2, "a"), is(1, "b", "y")}, "\x0c\x00" +
			"\x08\x00\x01\x00\x00\x00\x00\x00\x00\x00\x01\x00a\x08\x00\x00\x00\x00\x00\x00\x00\x00\x00\x01\x00x" +
			"\x08\x00\x02\x00\x00\x00\x00\x00\x00\x00\x01\x00a\x08\x00\x01\x00\x00\x00\x00\x00\x00\x00\x00\x00" +
			"\x08\x00\x01\x00\x00\x00\x00\x00\x00\x00\x01\x00b\x08\x00\x00\x00\x00\x00\x00\x00\x00\x00\x01\x00y"},
	} {
		if got, e := Lay(c.l); got != c.want || e != api.OK {
			t.Errorf("Lay(%s): %q, %d, want %q", brief(c.l), got, e, c.want)
		}
		if got, e := Take(c.want); !slices.Equal(got, c.l) || e != api.OK {
			t.Errorf("Take(%q): %s, %d, want %s", c.want, brief(got), e, brief(c.l))
		}
	}
}

// filled is a record of three notes, that has so many octets.
func filled(octets int) []api.Note {
	left := octets - counted - 3*(around+1) - 2*3970
	return []api.Note{is(1, "a", strings.Repeat("x", 3970)), is(1, "b", strings.Repeat("y", 3970)), is(1, "c", strings.Repeat("z", left))}
}

// hundred is a record of 100 notes, that has so many octets: but for the last one they have 119 each.
func hundred(octets int) []api.Note {
	left := octets - counted - 99*119 - around - 4
	return append(slices.Repeat([]api.Note{is(7, "name", strings.Repeat("v", 119-around-4))}, mostNotes-1), is(7, "name", strings.Repeat("v", left)))
}

// records may be laid; each edge is there.
func records() [][]api.Note {
	may, _ := notesToMay()
	all := [][]api.Note{
		filled(mostRecord), filled(mostRecord - 1), hundred(mostRecord), hundred(mostRecord - 1),
		slices.Repeat([]api.Note{is(1, "a", "")}, mostNotes), slices.Repeat([]api.Note{gone(9, "a")}, mostNotes-1),
		{is(1, "b", "x"), is(3, "a", "y"), is(2, "a", "z"), gone(3, "a"), is(1, "b", "x")},
	}
	for _, n := range may {
		all = append(all, []api.Note{n}, []api.Note{n, gone(4, "z")}, []api.Note{is(4, "z", "x"), n})
	}
	return all
}

// TestRoundTrip: P12.1, what is laid is as the document says, and taken as it was.
func TestRoundTrip(t *testing.T) {
	for _, l := range records() {
		was := slices.Clone(l)
		s, e := Lay(l)
		if e != api.OK || s != wantLay(was...) {
			t.Fatalf("Lay(%s): %s, %d", brief(was), brief(s), e)
		}
		got, e := Take(s)
		if e != api.OK || !slices.Equal(got, was) {
			t.Fatalf("Take(%s): %s, %d, want %s", brief(s), brief(got), e, brief(was))
		}
		if !slices.Equal(l, was) {
			t.Fatalf("Lay(%s): what was handed in is %s now", brief(was), brief(l))
		}
	}
	for _, l := range [][]api.Note{filled(mostRecord), hundred(mostRecord)} {
		if s, _ := Lay(l); len(s) != mostRecord {
			t.Errorf("a greatest record of %d notes has %d octets", len(l), len(s))
		}
	}
}

// TestLayRefuses: P12.1, what is no record is told ahead of what is too large.
func TestLayRefuses(t *testing.T) {
	small, large := is(1, "a", ""), is(1, "a", strings.Repeat("x", mostText))
	_, mayNot := notesToMay()
	bad := [][]api.Note{nil, {}, slices.Repeat([]api.Note{small}, mostNotes+1), slices.Repeat([]api.Note{large}, mostNotes+1), make([]api.Note, 100000), slices.Repeat([]api.Note{small}, 100000)}
	for _, n := range mayNot {
		bad = append(bad, []api.Note{n}, []api.Note{small, n}, []api.Note{n, small}, []api.Note{large, large, large, n}, []api.Note{n, large, large, large})
	}
	for _, l := range bad {
		if s, e := Lay(l); s != "" || e != api.ErrArg {
			t.Errorf("Lay(%s): %s, %d", brief(l), brief(s), e)
		}
	}
	for _, l := range [][]api.Note{
		filled(mostRecord + 1), hundred(mostRecord + 1), {large, large, large}, {small, large, large, large}, slices.Repeat([]api.Note{large}, mostNotes),
	} {
		if s, e := Lay(l); s != "" || e != api.ErrLarge {
			t.Errorf("Lay(%s): %s, %d", brief(l), brief(s), e)
		}
	}
}

// refused: are octets no record's?
func refused(t *testing.T, s string) {
	t.Helper()
	if l, e := Take(s); len(l) != 0 || e != api.ErrForm {
		t.Errorf("Take(%s): %s, %d", brief(s), brief(l), e)
	}
}

// TestTakeRefuses: P12.1, octets that are no list, or that of other texts than a record's, each for one reason.
func TestTakeRefuses(t *testing.T) {
	good := wantLay(is(5, "a", "x"))
	for _, s := range []string{
		"", "\x00", "\x00\x00", "\x04\x00", "\xff\xff", "\x04", "x", "\x01\x00\x01\x00a", "\xa0\x0f", "\xa1\x0f", list(), list(""),
		good[counted:], "\x00\x00" + good, good + "\x00\x00", good + "\x00", good + "x", good + list(""), good[:counted] + "\x00\x00" + good[counted:],
		"\x00" + good[1:], "\x01" + good[1:], "\x03" + good[1:], "\x05" + good[1:], "\x08" + good[1:], "\x04\x01" + good[counted:],
	} {
		refused(t, s)
	}
	two := wantLay(is(5, "a", "x"), gone(6, "b"))
	for i := range len(two) {
		refused(t, two[:i])
		refused(t, two+two[:i+1])
	}
	refused(t, wantLay(filled(mostRecord+1)...))
	refused(t, wantLay(hundred(mostRecord+1)...))
	refused(t, wantLay(slices.Repeat([]api.Note{is(1, "a", "")}, mostNotes+1)...))
	refused(t, wantLay(slices.Repeat([]api.Note{is(1, "a", "")}, 1000)...))
	refused(t, wantLay(slices.Repeat([]api.Note{is(1, "a", "")}, 1001)...))
	refused(t, wantLay(slices.Repeat([]api.Note{is(1, "a", strings.Repeat("x", mostText))}, 3)...))
	refused(t, strings.Repeat(good, 100000))
	refused(t, strings.Repeat("\x00", 1<<20))
	refused(t, strings.Repeat("\xff", 1<<20))
}

// TestTakeRefusesTexts: P12.1, lists of which four texts are no note that may be, or are too few, or too many, wherever they stand.
func TestTakeRefusesTexts(t *testing.T) {
	a, b := wantTexts(is(5, "a", "x")), wantTexts(gone(6, "b"))
	bad := [][]string{
		{""}, {"", "", "", ""}, {eight(5)}, {eight(5), "a"}, {eight(5), "a", eight(0)}, {eight(5), "a", eight(0), "x", ""}, {eight(5), "a", eight(0), "x", "y"},
		{"", eight(5), "a", eight(0), "x"}, {eight(5)[:7], "a", eight(0), "x"}, {eight(5) + "\x00", "a", eight(0), "x"}, {"", "a", eight(0), "x"}, {"5", "a", eight(0), "x"},
		{eight(5), "a", eight(2), "x"}, {eight(5), "a", eight(2), ""}, {eight(5), "a", eight(256), ""}, {eight(5), "a", eight(1 << 63), ""}, {eight(5), "a", eight(math.MaxUint64), ""},
		{eight(5), "a", "", "x"}, {eight(5), "a", "\x00", "x"}, {eight(5), "a", "\x01", ""}, {eight(5), "a", "0", "x"},
		{eight(5), "a", eight(0)[:7], "x"}, {eight(5), "a", eight(0) + "\x00", "x"}, {eight(5), "a", eight(1)[:7], ""}, {eight(5), "a", eight(1) + "\x00", ""},
		{"a", eight(5), eight(0), "x"}, {eight(5), eight(0), "a", "x"}, {wantLay(is(5, "a", "x"))},
	}
	_, mayNot := notesToMay()
	for _, n := range mayNot {
		bad = append(bad, wantTexts(n))
	}
	for _, texts := range bad {
		refused(t, list(texts...))
		refused(t, list(slices.Concat(texts, a, b)...))
		refused(t, list(slices.Concat(a, texts, b)...))
		refused(t, list(slices.Concat(a, b, texts)...))
	}
}

// TestRecordIsOneList: P12.1, notes laid each as a list of its own, one behind the other, are no record.
func TestRecordIsOneList(t *testing.T) {
	for _, l := range records() {
		var lists string
		for _, n := range l {
			lists += wantLay(n)
		}
		if len(l) > 1 {
			refused(t, lists)
			refused(t, wantLay(l[:1]...)+wantLay(l[1:]...))
		}
	}
}

// TestTakeByChance: P12.1, records with octets changed, cut out and put in, some of which are other records.
func TestTakeByChance(t *testing.T) {
	chance := chances(12)
	good, bad := 0, 0
	for range 100000 {
		var l []api.Note
		for range 1 + chance(3) {
			l = append(l, chanceNote(chance))
		}
		s := []byte(wantLay(l...))
		for range chance(3) {
			i := chance(len(s))
			switch chance(3) {
			case 0:
				s[i] = []byte{0, 1, 2, 4, 8, 255, 'a', s[i] ^ 1}[chance(8)]
			case 1:
				s = slices.Delete(s, i, min(len(s), i+1+chance(3)))
			case 2:
				s = slices.Insert(s, i, byte(chance(5)))
			}
		}
		want, isRecord := wantTake(string(s))
		got, e := Take(string(s))
		if isRecord {
			good++
			if e != api.OK || !slices.Equal(got, want) {
				t.Fatalf("Take(%q): %s, %d, want %s", s, brief(got), e, brief(want))
			}
			if again, e := Lay(got); e != api.OK || again != string(s) {
				t.Fatalf("Lay of Take(%q): %q, %d", s, again, e)
			}
			continue
		}
		bad++
		refused(t, string(s))
	}
	if good < 1000 || bad < 1000 {
		t.Errorf("%d records, %d others", good, bad)
	}
}

// TestCountByHand: P12.2, each word of it.
func TestCountByHand(t *testing.T) {
	for i, c := range []struct{ l, want []api.Note }{
		{nil, nil},
		{[]api.Note{}, nil},
		{[]api.Note{is(1, "a", "x")}, []api.Note{is(1, "a", "x")}},
		{[]api.Note{is(1, "b", ""), is(1, "a", "")}, []api.Note{is(1, "a", ""), is(1, "b", "")}},
		{[]api.Note{is(1, "a", "x"), is(2, "a", "y")}, []api.Note{is(2, "a", "y")}},
		{[]api.Note{is(2, "a", "y"), is(1, "a", "x")}, []api.Note{is(2, "a", "y")}},
		{[]api.Note{is(1, "a", "x"), is(1, "a", "y")}, []api.Note{is(1, "a", "y")}},
		{[]api.Note{is(1, "a", "y"), is(1, "a", "x")}, []api.Note{is(1, "a", "x")}},
		{[]api.Note{is(2, "a", "y"), is(2, "a", "x"), is(1, "a", "z")}, []api.Note{is(2, "a", "x")}},
		{[]api.Note{gone(2, "a"), is(2, "a", "x")}, []api.Note{is(2, "a", "x")}},
		{[]api.Note{is(2, "a", "x"), gone(2, "a")}, []api.Note{gone(2, "a")}},
		{[]api.Note{gone(1, "a"), is(2, "a", "x")}, []api.Note{is(2, "a", "x")}},
		{[]api.Note{gone(2, "a"), is(1, "a", "x")}, []api.Note{gone(2, "a")}},
		{[]api.Note{is(9, "b", "x"), is(10, "a", "y"), is(1, "c", "z"), gone(256, "b")}, []api.Note{is(10, "a", "y"), gone(256, "b"), is(1, "c", "z")}},
		{[]api.Note{is(1<<63-1, "a", "x"), is(1<<63, "a", "y"), is(1, "a", "z")}, []api.Note{is(1<<63, "a", "y")}},
		{[]api.Note{is(math.MaxUint64, "a", "x"), is(math.MaxUint64-1, "a", "y")}, []api.Note{is(math.MaxUint64, "a", "x")}},
		{[]api.Note{{}}, []api.Note{{}}},
		{[]api.Note{is(0, "a", "x"), is(0, "a", "y")}, []api.Note{is(0, "a", "y")}},
		{[]api.Note{is(0, "a", "x"), goneVal(1, "", "y"), is(0, "", "z")}, []api.Note{goneVal(1, "", "y"), is(0, "a", "x")}},
		{[]api.Note{is(1, "b", ""), is(1, "a\xff", ""), is(1, "a", ""), is(1, "B", ""), is(1, "é", ""), is(1, "\x00", "")}, []api.Note{is(1, "\x00", ""), is(1, "B", ""), is(1, "a", ""), is(1, "a\xff", ""), is(1, "b", ""), is(1, "é", "")}},
	} {
		if got := Count(c.l); !slices.Equal(got, c.want) {
			t.Errorf("%d: Count(%s): %s, want %s", i, brief(c.l), brief(got), brief(c.want))
		}
	}
}

// TestItemsByHand: P12.2, each word of it.
func TestItemsByHand(t *testing.T) {
	for i, c := range []struct {
		l    []api.Note
		want []api.Item
	}{
		{nil, nil},
		{[]api.Note{is(1, "a", "x")}, []api.Item{{Name: "a", Val: "x"}}},
		{[]api.Note{gone(1, "a")}, nil},
		{[]api.Note{is(1, "a", "x"), gone(2, "a")}, nil},
		{[]api.Note{is(1, "a", "x"), gone(1, "a")}, nil},
		{[]api.Note{gone(2, "a"), is(1, "a", "x")}, nil},
		{[]api.Note{gone(1, "a"), is(1, "a", "x")}, []api.Item{{Name: "a", Val: "x"}}},
		{[]api.Note{is(2, "c", "z"), is(1, "b", ""), gone(3, "d"), is(1, "a", "x"), is(1, "c", "y")}, []api.Item{{Name: "a", Val: "x"}, {Name: "b"}, {Name: "c", Val: "z"}}},
		{[]api.Note{goneVal(1, "a", "x"), is(0, "", "y")}, []api.Item{{Val: "y"}}},
	} {
		if got := Items(c.l); !slices.Equal(got, c.want) {
			t.Errorf("%d: Items(%s): %s, want %s", i, brief(c.l), brief(got), brief(c.want))
		}
	}
}

// TestLiveByHand: P12.2, each word of it.
func TestLiveByHand(t *testing.T) {
	x1, y1, x2, g2, b1 := is(1, "a", "x"), is(1, "a", "y"), is(2, "a", "x"), gone(2, "a"), is(1, "b", "x")
	for i, c := range []struct{ all, l, want []api.Note }{
		{nil, nil, nil},
		{[]api.Note{x1}, nil, nil},
		{nil, []api.Note{x1}, nil},
		{nil, []api.Note{{}}, nil},
		{[]api.Note{{}}, []api.Note{{}}, []api.Note{{}}},
		{[]api.Note{x1}, []api.Note{{}}, nil},
		{[]api.Note{x1}, []api.Note{x1}, []api.Note{x1}},
		{[]api.Note{x1}, []api.Note{x1, x1}, []api.Note{x1, x1}},
		{[]api.Note{x1}, []api.Note{y1}, nil},
		{[]api.Note{x1}, []api.Note{b1}, nil},
		{[]api.Note{x1, y1}, []api.Note{x1, y1}, []api.Note{y1}},
		{[]api.Note{y1, x1}, []api.Note{x1, y1}, []api.Note{x1}},
		{[]api.Note{x1, x2}, []api.Note{x1, x2}, []api.Note{x2}},
		{[]api.Note{x2, x1}, []api.Note{x1}, nil},
		{[]api.Note{x1}, []api.Note{x2}, nil},
		{[]api.Note{x2, g2}, []api.Note{x2, g2}, []api.Note{g2}},
		{[]api.Note{g2, x2}, []api.Note{x2, g2}, []api.Note{x2}},
		{[]api.Note{g2}, []api.Note{goneVal(2, "a", "x")}, nil},
		{[]api.Note{b1, x1, g2}, []api.Note{g2, x1, b1, g2}, []api.Note{g2, b1, g2}},
		{[]api.Note{x1, b1}, []api.Note{b1, x1}, []api.Note{b1, x1}},
	} {
		if got := Live(c.all, c.l); !slices.Equal(got, c.want) {
			t.Errorf("%d: Live(%s, %s): %s, want %s", i, brief(c.all), brief(c.l), brief(got), brief(c.want))
		}
	}
}

// TestStamped: P12.2, the changes, in order, each by the stamp.
func TestStamped(t *testing.T) {
	c := []api.Change{{Name: "b", Val: "x"}, {Name: "a", Gone: true}, {Name: "b", Val: "y"}, {}, {Name: "b", Val: "x"}, {Name: "c", Val: "z", Gone: true}}
	was := slices.Clone(c)
	for _, stamp := range []uint64{0, 1, 9, 1 << 63, math.MaxUint64} {
		want := []api.Note{is(stamp, "b", "x"), gone(stamp, "a"), is(stamp, "b", "y"), is(stamp, "", ""), is(stamp, "b", "x"), goneVal(stamp, "c", "z")}
		if got := Stamped(c, stamp); !slices.Equal(got, want) || !slices.Equal(c, was) {
			t.Errorf("Stamped by %d: %s, want %s", stamp, brief(got), brief(want))
		}
		if got := Stamped(nil, stamp); len(got) != 0 {
			t.Errorf("Stamped of none: %s", brief(got))
		}
	}
}

// TestLast: P12.2, the greatest stamp; 0, if there are none.
func TestLast(t *testing.T) {
	for _, c := range []struct {
		l    []api.Note
		want uint64
	}{
		{nil, 0}, {[]api.Note{}, 0}, {[]api.Note{is(0, "a", "")}, 0}, {[]api.Note{is(1, "a", "")}, 1}, {[]api.Note{gone(7, "a")}, 7},
		{[]api.Note{is(3, "a", ""), is(5, "b", ""), is(4, "a", "")}, 5}, {[]api.Note{is(5, "a", ""), gone(9, "b")}, 9}, {[]api.Note{is(9, "a", ""), gone(5, "b")}, 9},
		{[]api.Note{is(1<<63-1, "a", ""), is(1<<63, "a", "")}, 1 << 63}, {[]api.Note{is(math.MaxUint64, "a", ""), is(1, "a", "")}, math.MaxUint64},
	} {
		if got := Last(c.l); got != c.want {
			t.Errorf("Last(%s): %d, want %d", brief(c.l), got, c.want)
		}
	}
}

// TestByChance: P12.2, notes by chance, in any order, with several of one name and stamp; what is handed in stays.
func TestByChance(t *testing.T) {
	chance := chances(1)
	for range 20000 {
		all, l := chanceNotes(chance, 14), chanceNotes(chance, 7)
		for range chance(4) {
			if len(all) > 0 {
				l = append(l, all[chance(len(all))])
			}
		}
		wasAll, wasL := slices.Clone(all), slices.Clone(l)
		if got := Count(all); !slices.Equal(got, wantCount(wasAll)) {
			t.Fatalf("Count(%s): %s, want %s", brief(wasAll), brief(got), brief(wantCount(wasAll)))
		}
		if got := Items(all); !slices.Equal(got, wantItems(wasAll)) {
			t.Fatalf("Items(%s): %s, want %s", brief(wasAll), brief(got), brief(wantItems(wasAll)))
		}
		if got := Live(all, l); !slices.Equal(got, wantLive(wasAll, wasL)) {
			t.Fatalf("Live(%s, %s): %s, want %s", brief(wasAll), brief(wasL), brief(got), brief(wantLive(wasAll, wasL)))
		}
		if Last(all) != Last(Count(all)) {
			t.Fatalf("Last(%s): %d", brief(all), Last(all))
		}
		if !slices.Equal(all, wasAll) || !slices.Equal(l, wasL) {
			t.Fatalf("what was handed in, %s, %s, is %s, %s now", brief(wasAll), brief(wasL), brief(all), brief(l))
		}
	}
}

// TestWhatCounts: P12.3, in any order, twice, and without those that are not live.
func TestWhatCounts(t *testing.T) {
	chance := chances(3)
	for range 5000 {
		l := chanceNotes(chance, 14)
		count := Count(l)
		if got := Count(append(slices.Clone(l), l...)); !slices.Equal(got, count) {
			t.Fatalf("twice %s: %s, want %s", brief(l), brief(got), brief(count))
		}
		if got := Count(Live(l, l)); !slices.Equal(got, count) {
			t.Fatalf("what is live of %s: %s, want %s", brief(l), brief(got), brief(count))
		}
		// No two notes of one name have one stamp now.
		for i := range l {
			l[i].Stamp = uint64(i) * 3
		}
		count, items := Count(l), Items(l)
		for range 10 {
			for i := range l {
				j := chance(len(l))
				l[i], l[j] = l[j], l[i]
			}
			if got := Count(l); !slices.Equal(got, count) || !slices.Equal(Items(l), items) {
				t.Fatalf("%s in another order: %s, want %s", brief(l), brief(got), brief(count))
			}
		}
	}
}

// TestDepotByNotes: P12.2 and P12.3, the changes of each step, laid as records by rising stamps, make a depot's items.
func TestDepotByNotes(t *testing.T) {
	chance := chances(5)
	d := api.Depot{}
	var was []api.Item
	var all []api.Note
	for step := range 400 {
		a := api.Ask{Kind: 1 + chance(12), Bucket: []string{"box", "tub"}[chance(2)], Key: []string{"a", "b"}[chance(2)], To: "box", As: "c", Data: strings.Repeat("d", chance(40)), N: chance(3), ID: uint64(chance(9))}
		if step == 0 {
			a = api.Ask{Kind: api.Make, Bucket: "box"}
		}
		d, _ = depot.Do(d, a)
		now, _ := items.Of(d)
		if l := Stamped(items.Diff(was, now), Last(all)+1); len(l) > 0 {
			s, e := Lay(l)
			taken, f := Take(s)
			if e != api.OK || f != api.OK {
				t.Fatalf("Lay(%s): %d, Take: %d", brief(l), e, f)
			}
			all = append(all, taken...)
		}
		if got := Items(all); !slices.Equal(got, now) {
			t.Fatalf("step %d: %s, want %s", step, brief(got), brief(now))
		}
		was = now
	}
	if len(was) < 5 || len(all) < 100 {
		t.Errorf("%d items by %d notes are few", len(was), len(all))
	}
}

// TestNewMemory: what is answered shares nothing with what was handed in, even where there is room behind it.
func TestNewMemory(t *testing.T) {
	l := slices.Grow([]api.Note{is(1, "a", "x"), is(1, "b", "y"), gone(1, "c")}, 9)
	was := slices.Clone(l[:cap(l)])
	for _, got := range [][]api.Note{Count(l), Count(l[:1]), Live(l, l), Live(l[:1], l[:1]), Live(nil, l)} {
		for i := range got[:cap(got)] {
			got[:cap(got)][i] = is(9, "scribble", "")
		}
	}
	if !slices.Equal(l[:cap(l)], was) {
		t.Errorf("%s is %s now", brief(was), brief(l[:cap(l)]))
	}
}

// TestExamples: the chapter's examples.
func TestExamples(t *testing.T) {
	l := []api.Note{is(1, "a", "x"), gone(2, "a"), is(1, "b", "y")}
	if got := Count(l); !slices.Equal(got, []api.Note{gone(2, "a"), is(1, "b", "y")}) {
		t.Errorf("Count: %s", brief(got))
	}
	if got := Items(l); !slices.Equal(got, []api.Item{{Name: "b", Val: "y"}}) {
		t.Errorf("Items: %s", brief(got))
	}
	if got := Live(l, l[:1]); len(got) != 0 {
		t.Errorf("Live: %s", brief(got))
	}
	refused(t, "")
}
