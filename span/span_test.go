package span

import (
	"math"
	"strconv"
	"strings"
	"testing"

	"cellarer/api"
)

const last = 1<<40 - 1 // the last place that may stand in a span

// places: both edges, their neighbours, and as far beyond them as an int goes.
func places() []int {
	all := []int{math.MinInt, math.MinInt + 1, -last - 1, -last, -10, -2, -1}
	for n := range 13 {
		all = append(all, n)
	}
	return append(all, 99, 100, 101, 1<<31-1, 1<<31, 1<<32, last-1, last, last+1, last+2, 1<<41, math.MaxInt-1, math.MaxInt)
}

// anySpans: of all kinds, also such as may not be.
func anySpans() []api.Span {
	var all []api.Span
	for _, from := range places() {
		for _, to := range places() {
			for _, open := range []bool{false, true} {
				for _, back := range []bool{false, true} {
					all = append(all, api.Span{From: from, To: to, Open: open, Back: back})
				}
			}
		}
	}
	return all
}

// laid is the text of a span that may be, and whether it may be, as the document's words say it.
func laid(s api.Span) (string, bool) {
	from, to := strconv.Itoa(s.From), strconv.Itoa(s.To)
	if s.From < 0 || s.From > last || s.To < 0 || s.To > last {
		return "", false
	}
	switch [2]bool{s.Open, s.Back} {
	case [2]bool{false, false}:
		return from + "-" + to, s.From <= s.To
	case [2]bool{true, false}:
		return from + "-", s.To == 0
	case [2]bool{false, true}:
		return "-" + to, s.From == 0
	}
	return "", false
}

// sought is the octets of so many that a span holds, one by one: where they begin, and how many they are.
func sought(s api.Span, size int) (int, int) {
	begin, n := 0, 0
	for i := range size {
		in := s.From <= i && i <= s.To
		if s.Open {
			in = s.From <= i
		}
		if s.Back {
			in = size-i <= s.To
		}
		if in && n == 0 {
			begin = i
		}
		if in {
			n++
		}
	}
	return begin, n
}

// TestMay: P3.1, spans of the three kinds, their edges, and what is of no kind.
func TestMay(t *testing.T) {
	for _, c := range []struct {
		s    api.Span
		want bool
	}{
		{api.Span{}, true}, {api.Span{From: 3, To: 9}, true}, {api.Span{From: 9, To: 9}, true}, {api.Span{From: 9, To: 8}, false},
		{api.Span{To: last}, true}, {api.Span{From: last, To: last}, true}, {api.Span{To: last + 1}, false}, {api.Span{From: last + 1, To: last + 1}, false},
		{api.Span{From: -1}, false}, {api.Span{From: -1, To: 5}, false}, {api.Span{From: -5, To: -1}, false}, {api.Span{From: math.MinInt, To: math.MaxInt}, false},
		{api.Span{Open: true}, true}, {api.Span{From: 7, Open: true}, true}, {api.Span{From: last, Open: true}, true},
		{api.Span{From: last + 1, Open: true}, false}, {api.Span{From: -1, Open: true}, false},
		{api.Span{To: 1, Open: true}, false}, {api.Span{From: 1, To: 2, Open: true}, false}, {api.Span{To: -1, Open: true}, false},
		{api.Span{Back: true}, true}, {api.Span{To: 7, Back: true}, true}, {api.Span{To: last, Back: true}, true},
		{api.Span{To: last + 1, Back: true}, false}, {api.Span{To: -1, Back: true}, false},
		{api.Span{From: 1, Back: true}, false}, {api.Span{From: 1, To: 2, Back: true}, false}, {api.Span{From: -1, Back: true}, false},
		{api.Span{Open: true, Back: true}, false}, {api.Span{From: 1, Open: true, Back: true}, false}, {api.Span{To: 1, Open: true, Back: true}, false},
	} {
		if got := May(c.s); got != c.want {
			t.Errorf("May(%v): %v", c.s, got)
		}
	}
	for _, s := range anySpans() {
		if _, want := laid(s); May(s) != want {
			t.Errorf("May(%v): %v", s, !want)
		}
	}
}

// TestText: P3.1, ErrArg of a span that may not be; else its text, of which Parse makes the span again.
func TestText(t *testing.T) {
	for want, s := range map[string]api.Span{
		"0-0": {}, "3-9": {From: 3, To: 9}, "10-20": {From: 10, To: 20}, "0-": {Open: true}, "7-": {From: 7, Open: true}, "100-": {From: 100, Open: true},
		"-0": {Back: true}, "-5": {To: 5, Back: true}, "-10": {To: 10, Back: true}, "1099511627775-1099511627775": {From: last, To: last},
		"1099511627775-": {From: last, Open: true}, "-1099511627775": {To: last, Back: true}, "908070605-1020304050": {From: 908070605, To: 1020304050},
	} {
		if got, e := Text(s); got != want || e != api.OK {
			t.Errorf("Text(%v): %q, %d", s, got, e)
		}
	}
	texts := map[string]api.Span{}
	for _, s := range anySpans() {
		want, may := laid(s)
		got, e := Text(s)
		if !may {
			if got != "" || e != api.ErrArg {
				t.Errorf("Text(%v): %q, %d", s, got, e)
			}
			continue
		}
		if got != want || e != api.OK {
			t.Errorf("Text(%v): %q, %d, want %q", s, got, e, want)
		}
		if other, there := texts[got]; there && other != s {
			t.Errorf("Text(%v) and Text(%v): %q", s, other, got)
		}
		texts[got] = s
		if back, e := Parse(got); back != s || e != api.OK {
			t.Errorf("Parse(%q): %v, %d", got, back, e)
		}
	}
}

// TestParse: P3.1, the span of a text; ErrForm, and no span, of what is no span's text.
func TestParse(t *testing.T) {
	for text, want := range map[string]api.Span{
		"0-0": {}, "1-2": {From: 1, To: 2}, "5-5": {From: 5, To: 5}, "9-10": {From: 9, To: 10}, "0-": {Open: true}, "4-": {From: 4, Open: true},
		"-0": {Back: true}, "-9": {To: 9, Back: true}, "10-100": {From: 10, To: 100}, "0-1099511627775": {To: last}, "1099511627775-": {From: last, Open: true},
		"1099511627774-1099511627775": {From: last - 1, To: last}, "-1099511627775": {To: last, Back: true},
	} {
		if got, e := Parse(text); got != want || e != api.OK {
			t.Errorf("Parse(%q): %v, %d", text, got, e)
		}
	}
	for _, text := range []string{
		"", "-", "--", "5", "0", "5-4", "10-9", "00-1", "0-00", "01-2", "1-02", "00-", "-00", "-01", "1-2-", "1-2-3", "--1", "1--", "1--2", "-1-", "-1-2",
		"+1-2", "1-+2", "-+1", "+1-", " 1-2", "1-2 ", "1 -2", "1- 2", "1-2\n", "\x001-2", "1-2\x00", "a-b", "1-b", "a-1", "0x1-2", "1_0-20", "1e1-20", "1.0-2",
		"1,2", "1\u20132", "\u0661-", "-\u0661", "1:2", "/-1", ":-1", "1-/", "1-:", "bytes=1-2", "1099511627776-", "-1099511627776", "0-1099511627776",
		"1099511627776-1099511627776", "1099511627775-1099511627774", "18446744073709551616-", "0-18446744073709551616", "-18446744073709551616",
		"18446744073709551617-18446744073709551618", "9223372036854775807-", "9223372036854775808-", "99999999999999999999-",
		strings.Repeat("9", 1000) + "-", "-" + strings.Repeat("9", 1000), "0-" + strings.Repeat("1", 100000), strings.Repeat("0", 1000) + "-1", strings.Repeat("1", 100000),
	} {
		if got, e := Parse(text); got != (api.Span{}) || e != api.ErrForm {
			t.Errorf("Parse of %d octets, %.30q: %v, %d", len(text), text, got, e)
		}
	}
}

// TestParseFewOctets: P3.1, each text of few octets is a span's that may be, or of no form.
func TestParseFewOctets(t *testing.T) {
	var nums []int
	for n := range 10000 {
		if d := strings.Trim(strconv.Itoa(n), "0129"); d == "" {
			nums = append(nums, n)
		}
	}
	known := map[string]api.Span{}
	for _, a := range nums {
		known[strconv.Itoa(a)+"-"] = api.Span{From: a, Open: true}
		known["-"+strconv.Itoa(a)] = api.Span{To: a, Back: true}
		for _, b := range nums {
			if a <= b {
				known[strconv.Itoa(a)+"-"+strconv.Itoa(b)] = api.Span{From: a, To: b}
			}
		}
	}
	const octets = "-0129+/:"
	all := []string{""}
	for first := 0; len(all[first]) < 5; first++ {
		for i := range len(octets) {
			all = append(all, all[first]+octets[i:i+1])
		}
	}
	for _, text := range all {
		want, there := known[text]
		wantErr := api.OK
		if !there {
			wantErr = api.ErrForm
		}
		if got, e := Parse(text); got != want || e != wantErr {
			t.Fatalf("Parse(%q): %v, %d", text, got, e)
		}
	}
}

// TestOf: P3.2, each kind at its edges; ErrArg ahead of ErrRange.
func TestOf(t *testing.T) {
	for _, c := range []struct {
		s             api.Span
		size, from, n int
		e             api.Errno
	}{
		{api.Span{From: 1, To: 2}, 6, 1, 2, api.OK}, {api.Span{From: 0, To: 5}, 6, 0, 6, api.OK}, {api.Span{From: 0, To: 6}, 6, 0, 6, api.OK},
		{api.Span{From: 5, To: 5}, 6, 5, 1, api.OK}, {api.Span{From: 5, To: last}, 6, 5, 1, api.OK}, {api.Span{From: 6, To: 6}, 6, 0, 0, api.ErrRange},
		{api.Span{From: 6, To: last}, 6, 0, 0, api.ErrRange}, {api.Span{}, 1, 0, 1, api.OK}, {api.Span{}, 0, 0, 0, api.ErrRange},
		{api.Span{From: 4, Open: true}, 6, 4, 2, api.OK}, {api.Span{Open: true}, 6, 0, 6, api.OK}, {api.Span{From: 6, Open: true}, 6, 0, 0, api.ErrRange},
		{api.Span{From: 7, Open: true}, 6, 0, 0, api.ErrRange}, {api.Span{Open: true}, 0, 0, 0, api.ErrRange}, {api.Span{From: last, Open: true}, 6, 0, 0, api.ErrRange},
		{api.Span{To: 2, Back: true}, 6, 4, 2, api.OK}, {api.Span{To: 6, Back: true}, 6, 0, 6, api.OK}, {api.Span{To: 9, Back: true}, 6, 0, 6, api.OK},
		{api.Span{To: last, Back: true}, 1, 0, 1, api.OK}, {api.Span{Back: true}, 6, 0, 0, api.ErrRange}, {api.Span{Back: true}, 0, 0, 0, api.ErrRange},
		{api.Span{To: 1, Back: true}, 0, 0, 0, api.ErrRange}, {api.Span{To: last, Back: true}, 0, 0, 0, api.ErrRange},
		{api.Span{From: 2, To: 1}, 6, 0, 0, api.ErrArg}, {api.Span{From: 2, To: 1}, 0, 0, 0, api.ErrArg}, {api.Span{From: 9, To: 8}, 6, 0, 0, api.ErrArg},
		{api.Span{To: 1, Open: true}, 6, 0, 0, api.ErrArg}, {api.Span{From: 1, Back: true}, 6, 0, 0, api.ErrArg}, {api.Span{Open: true, Back: true}, 6, 0, 0, api.ErrArg},
		{api.Span{To: last + 1}, 6, 0, 0, api.ErrArg}, {api.Span{From: -1, To: 1}, 6, 0, 0, api.ErrArg}, {api.Span{To: math.MaxInt}, 6, 0, 0, api.ErrArg},
		{api.Span{}, -1, 0, 0, api.ErrArg}, {api.Span{Open: true}, -1, 0, 0, api.ErrArg}, {api.Span{To: 1, Back: true}, -1, 0, 0, api.ErrArg},
		{api.Span{To: last, Back: true}, math.MinInt, 0, 0, api.ErrArg}, {api.Span{From: 6, To: 9}, math.MinInt, 0, 0, api.ErrArg},
		{api.Span{From: last, To: last}, last, 0, 0, api.ErrRange}, {api.Span{From: last, To: last}, last + 1, last, 1, api.OK},
		{api.Span{To: last}, math.MaxInt, 0, last + 1, api.OK}, {api.Span{Open: true}, math.MaxInt, 0, math.MaxInt, api.OK},
		{api.Span{From: last, Open: true}, math.MaxInt, last, math.MaxInt - last, api.OK}, {api.Span{To: last, Back: true}, math.MaxInt, math.MaxInt - last, last, api.OK},
		{api.Span{To: 1, Back: true}, math.MaxInt, math.MaxInt - 1, 1, api.OK}, {api.Span{Back: true}, math.MaxInt, 0, 0, api.ErrRange},
	} {
		if from, n, e := Of(c.s, c.size); from != c.from || n != c.n || e != c.e {
			t.Errorf("Of(%v, %d): %d, %d, %d", c.s, c.size, from, n, e)
		}
	}
}

// TestOfAll: P3.2, each span of few octets holds those that the document's words say, and none is told as ErrRange.
func TestOfAll(t *testing.T) {
	const data = "abcdefghijkl"
	for size := range len(data) + 1 {
		for _, s := range anySpans() {
			wantFrom, wantN, want := 0, 0, api.ErrArg
			if _, may := laid(s); may {
				want = api.ErrRange
				if wantFrom, wantN = sought(s, size); wantN > 0 {
					want = api.OK
				}
			}
			if from, n, e := Of(s, size); from != wantFrom || n != wantN || e != want {
				t.Fatalf("Of(%v, %d): %d, %d, %d, want %d, %d, %d", s, size, from, n, e, wantFrom, wantN, want)
			}
			if got, e := Cut(s, data[:size]); got != data[wantFrom:wantFrom+wantN] || e != want {
				t.Fatalf("Cut(%v, %q): %q, %d", s, data[:size], got, e)
			}
			if from, n, e := Of(s, -1-size); from != 0 || n != 0 || e != api.ErrArg {
				t.Fatalf("Of(%v, %d): %d, %d, %d", s, -1-size, from, n, e)
			}
		}
	}
}

// TestCut: P3.2, the chapter's examples, octets that are no letters, and Of's errors, beside which nothing is told.
func TestCut(t *testing.T) {
	for _, c := range []struct {
		span, data, want string
		e                api.Errno
	}{
		{"1-2", "abcdef", "bc", api.OK}, {"4-", "abcdef", "ef", api.OK}, {"-9", "abcdef", "abcdef", api.OK}, {"6-", "abcdef", "", api.ErrRange},
		{"5-", "abcdef", "f", api.OK}, {"-1", "abcdef", "f", api.OK}, {"-0", "abcdef", "", api.ErrRange}, {"0-0", "", "", api.ErrRange}, {"0-", "", "", api.ErrRange},
		{"-1", "", "", api.ErrRange}, {"0-1099511627775", "abc", "abc", api.OK}, {"1-1", "\x00\xff\xc3", "\xff", api.OK}, {"1-", "\u00e9\x00", "\xa9\x00", api.OK},
		{"100-199", strings.Repeat("x", 150), strings.Repeat("x", 50), api.OK},
	} {
		s, _ := Parse(c.span)
		if got, e := Cut(s, c.data); got != c.want || e != c.e {
			t.Errorf("Cut(%s, %q): %q, %d", c.span, c.data, got, e)
		}
	}
	for _, s := range []api.Span{{From: 2, To: 1}, {From: -1}, {To: last + 1}, {To: 1, Open: true}, {From: 1, Back: true}, {Open: true, Back: true}} {
		for _, data := range []string{"", "abc"} {
			if got, e := Cut(s, data); got != "" || e != api.ErrArg {
				t.Errorf("Cut(%v, %q): %q, %d", s, data, got, e)
			}
		}
	}
}

// TestCutFollows: P3.3, one octet at the least; an Open span and those ahead of it are all; a Back one is an Open one.
func TestCutFollows(t *testing.T) {
	for size := range 20 {
		data := "abcdefghijklmnopqrst"[:size]
		for n := range 25 {
			open, openErr := Cut(api.Span{From: n, Open: true}, data)
			if openErr == api.OK && n > 0 {
				ahead, e := Cut(api.Span{To: n - 1}, data)
				if ahead+open != data || len(ahead) != n || e != api.OK {
					t.Errorf("of %d octets, %d-: %q, ahead of it %q, %d", size, n, open, ahead, e)
				}
			}
			if openErr == api.OK && n == 0 && open != data {
				t.Errorf("of %d octets, 0-: %q", size, open)
			}
			back, backErr := Cut(api.Span{To: n, Back: true}, data)
			same, sameErr := Cut(api.Span{From: max(size-n, 0), Open: true}, data)
			if back != same || backErr != sameErr {
				t.Errorf("of %d octets, -%d: %q, %d, want %q, %d", size, n, back, backErr, same, sameErr)
			}
			for to := n; to < 25; to++ {
				got, e := Cut(api.Span{From: n, To: to}, data)
				if (e == api.OK) != (len(got) > 0) {
					t.Errorf("of %d octets, %d-%d: %q, %d", size, n, to, got, e)
				}
			}
			if (openErr == api.OK) != (len(open) > 0) || (backErr == api.OK) != (len(back) > 0) {
				t.Errorf("of %d octets, %d- and -%d: %q, %d, and %q, %d", size, n, n, open, openErr, back, backErr)
			}
		}
	}
}
